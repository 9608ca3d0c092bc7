/- Package ends: newEnd. -/
import Derived.Test.YtgalebcpagmohaaGreatDoorMPRead
import Derived.Test.YtgalebcpagmohaaGreatDoorMPEncV
import Derived.Test.YtgalebcpagmohaaGreatDoorMDA
import Derived.Test.YtgalebcpagmohaaGreatDoorMDT
import Derived.Deep.RegionHeld3
set_option linter.unusedSimpArgs false
set_option linter.unusedVariables false
set_option maxHeartbeats 8000000
set_option maxRecDepth 100000
namespace Go.Proofs.YtgalebcpagmohaaGreatDoor
open Go.Proofs.Tryz
open Go.RowKit Go.Conc
def EJ (n a b:Int):Bool:=decide (a≤n)&&decide (n≤b)
theorem vI (n a b:Int) (w:World) :
  Calls Tryz.prog 55 #[.int .i64 n,.int .i64 a,.int .i64 b] w (fun e w'=>e=.returned (.bool (EJ n a b))∧w'=w):=by
 cases h1:decide (a≤n)
 all_goals
  have HB:=hid (show EJ n a b=(decide (a≤n)&&decide (n≤b)) from rfl)
  go_enter func55,ntmps55
  go_wp2_with fail
  go_ret
  exact⟨aG (by rw[HB.out,h1];simp),rfl⟩
def iU (W D R:Int):Bool:=EJ W 1 8&&EJ D 4 50&&EJ R 1 16
theorem vJ (w:World) (b:Nat) (v0 v1 v2 v3 v4 v5 v6 v7 v8:Value) (h:aU w b 65 [v0,v1,v2,v3,v4,v5,v6,v7,v8]):(loadVar 65 ⟨b,0,none⟩).run Tryz.prog w=.ok (.agg #[v0,v1,v2,v3,v4,v5,v6,v7,v8]) w:=by
 have e0:w.cell? ⟨b,0,none⟩=some v0:=h.cell 0
 have e1:w.cell? ⟨b,1,none⟩=some v1:=h.cell 1
 have e2:w.cell? ⟨b,2,none⟩=some v2:=h.cell 2
 have e3:w.cell? ⟨b,3,none⟩=some v3:=h.cell 3
 have e4:w.cell? ⟨b,4,none⟩=some v4:=h.cell 4
 have e5:w.cell? ⟨b,5,none⟩=some v5:=h.cell 5
 have e6:w.cell? ⟨b,6,none⟩=some v6:=h.cell 6
 have e7:w.cell? ⟨b,7,none⟩=some v7:=h.cell 7
 have e8:w.cell? ⟨b,8,none⟩=some v8:=h.cell 8
 simp[go_sem,e0,e1,e2,e3,e4,e5,e6,e7,e8]
def Pv (s:ByteArray) (W D R:Int) (w:World) (e:Ending) (w':World):Prop:=Below w.heap.size w w' ∧
 ((e=.returned (.tuple #[.agg #[.slice none 0 0,.int .i64 0,.int .i64 0,.int .i64 0,.int .i64 0,.bool false,.bool false,.chan none,.map none],.int .i64 8])∧∃ E P,bM s E P∧E≠0) ∨
  (e=.returned (.tuple #[.agg #[.slice none 0 0,.int .i64 0,.int .i64 0,.int .i64 0,.int .i64 0,.bool false,.bool false,.chan none,.map none],.int .i64 9])∧bM s 0 0∧iU W D R=false) ∨
  (∃ (a:Option Addr) (n c q m:Nat) (X:List bY),e=.returned (.tuple #[.agg #[.slice a n c,.int .i64 W,.int .i64 D,.int .i64 R,.int .i64 0,.bool false,.bool false,.chan (some q),.map (some m)],.int .i64 0])∧bM s 0 0∧iU W D R=true∧s.size≤400∧(dD s).1=some (X.map (fun x=>x.it))∧X.length≤400∧fQ w' w.heap.size (.slice a n c) X∧w.heap.size≤q∧w.heap.size≤m∧wB w' q []∧Waits w' m []))
theorem EK (s:ByteArray) (W D R:Int) (w:World) (hE:Env w) (hs:s.size≤maxLen) :
  Calls Tryz.prog 18 #[.string s,.agg #[.int .i64 W,.int .i64 D,.int .i64 R]] w (Pv s W D R w):=by
 have hb0:Below w.heap.size w (w.alloc (.cells #[.int .i64 W,.int .i64 D,.int .i64 R] 26)):=(Below.refl _ _).alloc (Nat.le_refl _) _
 have hC0:aU (w.alloc (.cells #[.int .i64 W,.int .i64 D,.int .i64 R] 26)) w.heap.size 26 [.int .i64 W,.int .i64 D,.int .i64 R]:=heap_alloc_new w _
 obtain⟨w0,hw0⟩:∃ w0,w.alloc (.cells #[.int .i64 W,.int .i64 D,.int .i64 R] 26)=w0:=⟨_,rfl⟩
 rw[hw0] at hb0 hC0
 have hb1:Below w0.heap.size w0 (w0.alloc (.cells #[.slice none 0 0,.int .i64 0,.int .i64 0,.int .i64 0,.int .i64 0,.bool false,.bool false,.chan none,.map none] 65)):=(Below.refl _ _).alloc (Nat.le_refl _) _
 have hR1:aU (w0.alloc (.cells #[.slice none 0 0,.int .i64 0,.int .i64 0,.int .i64 0,.int .i64 0,.bool false,.bool false,.chan none,.map none] 65)) w0.heap.size 65 [.slice none 0 0,.int .i64 0,.int .i64 0,.int .i64 0,.int .i64 0,.bool false,.bool false,.chan none,.map none]:=heap_alloc_new w0 _
 have hC1:=hC0.below hb1
 obtain⟨w1,hw1⟩:∃ w1,w0.alloc (.cells #[.slice none 0 0,.int .i64 0,.int .i64 0,.int .i64 0,.int .i64 0,.bool false,.bool false,.chan none,.map none] 65)=w1:=⟨_,rfl⟩
 rw[hw1] at hb1 hR1 hC1
 have hz0:w.heap.size≤w0.heap.size:=hb0.size
 have hz1:w0.heap.size≤w1.heap.size:=hb1.size
 have iV:Below w.heap.size w w1:=hb0.trans (hb1.mono hz0)
 have hle:w.heap.size≤w0.heap.size:=hz0
 have HE:=hid (hE.below iV)
 have HR1:=hid hR1
 have wP:=hid hC1
 clear hE hb0 hb1 hR1 hC0 hC1
 go_enter func18,ntmps18
 go_wp2_with fail
 refine(VH s w1 HE.out.v hs).mono ?_;rintro e w2 ⟨lv,a,n,c,E,P,rfl,rfl,hb2,hA,hR⟩
 have hbB:=iV.trans (hb2.mono iV.size)
 have hR2:=HR1.out.below hb2
 have hC2:=wP.out.below hb2
 have e0:w2.cell? ⟨w0.heap.size,0,none⟩=some (.slice none 0 0):=hR2.cell 0
 have g0:=hR2.frozen 0
 have e1:w2.cell? ⟨w0.heap.size,1,none⟩=some (.int .i64 0):=hR2.cell 1
 have g1:=hR2.frozen 1
 have e2:w2.cell? ⟨w0.heap.size,2,none⟩=some (.int .i64 0):=hR2.cell 2
 have g2:=hR2.frozen 2
 have e3:w2.cell? ⟨w0.heap.size,3,none⟩=some (.int .i64 0):=hR2.cell 3
 have g3:=hR2.frozen 3
 have e4:w2.cell? ⟨w0.heap.size,4,none⟩=some (.int .i64 0):=hR2.cell 4
 have g4:=hR2.frozen 4
 have e5:w2.cell? ⟨w0.heap.size,5,none⟩=some (.bool false):=hR2.cell 5
 have g5:=hR2.frozen 5
 have e6:w2.cell? ⟨w0.heap.size,6,none⟩=some (.bool false):=hR2.cell 6
 have g6:=hR2.frozen 6
 have e7:w2.cell? ⟨w0.heap.size,7,none⟩=some (.chan none):=hR2.cell 7
 have g7:=hR2.frozen 7
 have e8:w2.cell? ⟨w0.heap.size,8,none⟩=some (.map none):=hR2.cell 8
 have g8:=hR2.frozen 8
 have c0:w2.cell? ⟨w.heap.size,0,none⟩=some (.int .i64 W):=hC2.cell 0
 have c1:w2.cell? ⟨w.heap.size,1,none⟩=some (.int .i64 D):=hC2.cell 1
 have c2:w2.cell? ⟨w.heap.size,2,none⟩=some (.int .i64 R):=hC2.cell 2
 clear hC2
 by_cases hE0:E=0
 ·subst hE0
  obtain⟨h4,rfl⟩:=hA.zero
  obtain⟨X,hp,hits,hl,_⟩:=hR rfl
  have HA:=hid hA
  have HP:=hid hp
  have HI:=hid hits
  clear hA hR hp hits
  go_wp2_with fail
  refine(vI W 1 8 w2).mono ?_;rintro e w3 ⟨rfl,rfl⟩
  cases hW:EJ W 1 8
  ·have HO:=hid (show iU W D R=false by unfold iU;rw[hW];rfl)
   have HL:=hid (vJ _ _ _ _ _ _ _ _ _ _ _ (show aU (((((((((w3.setCell ⟨w0.heap.size,0,none⟩ (.slice none 0 0)).setCell ⟨w0.heap.size,1,none⟩ (.int .i64 0)).setCell ⟨w0.heap.size,2,none⟩ (.int .i64 0)).setCell ⟨w0.heap.size,3,none⟩ (.int .i64 0)).setCell ⟨w0.heap.size,4,none⟩ (.int .i64 0)).setCell ⟨w0.heap.size,5,none⟩ (.bool false)).setCell ⟨w0.heap.size,6,none⟩ (.bool false)).setCell ⟨w0.heap.size,7,none⟩ (.chan none)).setCell ⟨w0.heap.size,8,none⟩ (.map none)) w0.heap.size 65 [.slice none 0 0,.int .i64 0,.int .i64 0,.int .i64 0,.int .i64 0,.bool false,.bool false,.chan none,.map none] from(((((((((hR2.set 0 _).set 1 _).set 2 _).set 3 _).set 4 _).set 5 _).set 6 _).set 7 _).set 8 _)))
   have HB:=hid (((((((((hbB.setCell (p:=⟨w0.heap.size,0,none⟩) hle (.slice none 0 0)).setCell (p:=⟨w0.heap.size,1,none⟩) hle (.int .i64 0)).setCell (p:=⟨w0.heap.size,2,none⟩) hle (.int .i64 0)).setCell (p:=⟨w0.heap.size,3,none⟩) hle (.int .i64 0)).setCell (p:=⟨w0.heap.size,4,none⟩) hle (.int .i64 0)).setCell (p:=⟨w0.heap.size,5,none⟩) hle (.bool false)).setCell (p:=⟨w0.heap.size,6,none⟩) hle (.bool false)).setCell (p:=⟨w0.heap.size,7,none⟩) hle (.chan none)).setCell (p:=⟨w0.heap.size,8,none⟩) hle (.map none))
   clear hR2
   go_wp2_with fail
   (try simp only[Exit.inBlock,Exit.then])
   refine⟨rfl,.tuple #[.agg #[.slice none 0 0,.int .i64 0,.int .i64 0,.int .i64 0,.int .i64 0,.bool false,.bool false,.chan none,.map none],.int .i64 9],?_,HB.out,Or.inr (Or.inl ⟨rfl,HA.out,HO.out⟩)⟩
   rw[results_cell_tmp rfl]
   have:=HL.out
   simp[asAddr,this]
  ·go_wp2_with fail
   refine(vI D 4 50 w3).mono ?_;rintro e w4 ⟨rfl,rfl⟩
   cases hD:EJ D 4 50
   ·have HO:=hid (show iU W D R=false by unfold iU;rw[hW,hD];rfl)
    have HL:=hid (vJ _ _ _ _ _ _ _ _ _ _ _ (show aU (((((((((w4.setCell ⟨w0.heap.size,0,none⟩ (.slice none 0 0)).setCell ⟨w0.heap.size,1,none⟩ (.int .i64 0)).setCell ⟨w0.heap.size,2,none⟩ (.int .i64 0)).setCell ⟨w0.heap.size,3,none⟩ (.int .i64 0)).setCell ⟨w0.heap.size,4,none⟩ (.int .i64 0)).setCell ⟨w0.heap.size,5,none⟩ (.bool false)).setCell ⟨w0.heap.size,6,none⟩ (.bool false)).setCell ⟨w0.heap.size,7,none⟩ (.chan none)).setCell ⟨w0.heap.size,8,none⟩ (.map none)) w0.heap.size 65 [.slice none 0 0,.int .i64 0,.int .i64 0,.int .i64 0,.int .i64 0,.bool false,.bool false,.chan none,.map none] from(((((((((hR2.set 0 _).set 1 _).set 2 _).set 3 _).set 4 _).set 5 _).set 6 _).set 7 _).set 8 _)))
    have HB:=hid (((((((((hbB.setCell (p:=⟨w0.heap.size,0,none⟩) hle (.slice none 0 0)).setCell (p:=⟨w0.heap.size,1,none⟩) hle (.int .i64 0)).setCell (p:=⟨w0.heap.size,2,none⟩) hle (.int .i64 0)).setCell (p:=⟨w0.heap.size,3,none⟩) hle (.int .i64 0)).setCell (p:=⟨w0.heap.size,4,none⟩) hle (.int .i64 0)).setCell (p:=⟨w0.heap.size,5,none⟩) hle (.bool false)).setCell (p:=⟨w0.heap.size,6,none⟩) hle (.bool false)).setCell (p:=⟨w0.heap.size,7,none⟩) hle (.chan none)).setCell (p:=⟨w0.heap.size,8,none⟩) hle (.map none))
    clear hR2
    go_wp2_with fail
    (try simp only[Exit.inBlock,Exit.then])
    refine⟨rfl,.tuple #[.agg #[.slice none 0 0,.int .i64 0,.int .i64 0,.int .i64 0,.int .i64 0,.bool false,.bool false,.chan none,.map none],.int .i64 9],?_,HB.out,Or.inr (Or.inl ⟨rfl,HA.out,HO.out⟩)⟩
    rw[results_cell_tmp rfl]
    have:=HL.out
    simp[asAddr,this]
   ·go_wp2_with fail
    refine(vI R 1 16 w4).mono ?_;rintro e w5 ⟨rfl,rfl⟩
    cases hRr:EJ R 1 16
    ·have HO:=hid (show iU W D R=false by unfold iU;rw[hW,hD,hRr];rfl)
     have HL:=hid (vJ _ _ _ _ _ _ _ _ _ _ _ (show aU (((((((((w5.setCell ⟨w0.heap.size,0,none⟩ (.slice none 0 0)).setCell ⟨w0.heap.size,1,none⟩ (.int .i64 0)).setCell ⟨w0.heap.size,2,none⟩ (.int .i64 0)).setCell ⟨w0.heap.size,3,none⟩ (.int .i64 0)).setCell ⟨w0.heap.size,4,none⟩ (.int .i64 0)).setCell ⟨w0.heap.size,5,none⟩ (.bool false)).setCell ⟨w0.heap.size,6,none⟩ (.bool false)).setCell ⟨w0.heap.size,7,none⟩ (.chan none)).setCell ⟨w0.heap.size,8,none⟩ (.map none)) w0.heap.size 65 [.slice none 0 0,.int .i64 0,.int .i64 0,.int .i64 0,.int .i64 0,.bool false,.bool false,.chan none,.map none] from(((((((((hR2.set 0 _).set 1 _).set 2 _).set 3 _).set 4 _).set 5 _).set 6 _).set 7 _).set 8 _)))
     have HB:=hid (((((((((hbB.setCell (p:=⟨w0.heap.size,0,none⟩) hle (.slice none 0 0)).setCell (p:=⟨w0.heap.size,1,none⟩) hle (.int .i64 0)).setCell (p:=⟨w0.heap.size,2,none⟩) hle (.int .i64 0)).setCell (p:=⟨w0.heap.size,3,none⟩) hle (.int .i64 0)).setCell (p:=⟨w0.heap.size,4,none⟩) hle (.int .i64 0)).setCell (p:=⟨w0.heap.size,5,none⟩) hle (.bool false)).setCell (p:=⟨w0.heap.size,6,none⟩) hle (.bool false)).setCell (p:=⟨w0.heap.size,7,none⟩) hle (.chan none)).setCell (p:=⟨w0.heap.size,8,none⟩) hle (.map none))
     clear hR2
     go_wp2_with fail
     (try simp only[Exit.inBlock,Exit.then])
     refine⟨rfl,.tuple #[.agg #[.slice none 0 0,.int .i64 0,.int .i64 0,.int .i64 0,.int .i64 0,.bool false,.bool false,.chan none,.map none],.int .i64 9],?_,HB.out,Or.inr (Or.inl ⟨rfl,HA.out,HO.out⟩)⟩
     rw[results_cell_tmp rfl]
     have:=HL.out
     simp[asAddr,this]
    ·have HO:=hid (show iU W D R=true by unfold iU;rw[hW,hD,hRr];rfl)
     have HR5:=hid hR2
     have HM6:=hid (show aU (w5.alloc (.cells #[.slice a n c,.int .i64 W,.int .i64 D,.int .i64 R,.int .i64 0,.bool false,.bool false,.chan none,.map none] 65)) w5.heap.size 65 [.slice a n c,.int .i64 W,.int .i64 D,.int .i64 R,.int .i64 0,.bool false,.bool false,.chan none,.map none] from heap_alloc_new w5 _)
     have xJ:=hid (show Below w5.heap.size w5 (w5.alloc (.cells #[.slice a n c,.int .i64 W,.int .i64 D,.int .i64 R,.int .i64 0,.bool false,.bool false,.chan none,.map none] 65)) from(Below.refl _ _).alloc (Nat.le_refl _) _)
     clear hR2
     go_wp2_with fail
     refine(empty_any (w5.alloc (.cells #[.slice a n c,.int .i64 W,.int .i64 D,.int .i64 R,.int .i64 0,.bool false,.bool false,.chan none,.map none] 65)) w5.heap.size 65 _ _ _ _ 0 false false _ _ [] HM6.out).mono ?_;rintro e w7 ⟨rfl,q,m,hq,hm,XO,hQ7,hW7,hC7⟩
     have akg:=HR5.out.lt
     have agr:=xJ.out.size
     have hzB:=hbB.size
     have YP:Below w5.heap.size w5 w7:=(xJ.out).trans (hC7.below agr (fun i e=>by omega))
     have G8:=HR5.out.below YP
     have k0:w7.cell? ⟨w0.heap.size,0,none⟩=some (.slice none 0 0):=G8.cell 0
     have l0:=G8.frozen 0
     have k1:w7.cell? ⟨w0.heap.size,1,none⟩=some (.int .i64 0):=G8.cell 1
     have l1:=G8.frozen 1
     have k2:w7.cell? ⟨w0.heap.size,2,none⟩=some (.int .i64 0):=G8.cell 2
     have l2:=G8.frozen 2
     have k3:w7.cell? ⟨w0.heap.size,3,none⟩=some (.int .i64 0):=G8.cell 3
     have l3:=G8.frozen 3
     have k4:w7.cell? ⟨w0.heap.size,4,none⟩=some (.int .i64 0):=G8.cell 4
     have l4:=G8.frozen 4
     have k5:w7.cell? ⟨w0.heap.size,5,none⟩=some (.bool false):=G8.cell 5
     have l5:=G8.frozen 5
     have k6:w7.cell? ⟨w0.heap.size,6,none⟩=some (.bool false):=G8.cell 6
     have l6:=G8.frozen 6
     have k7:w7.cell? ⟨w0.heap.size,7,none⟩=some (.chan none):=G8.cell 7
     have l7:=G8.frozen 7
     have k8:w7.cell? ⟨w0.heap.size,8,none⟩=some (.map none):=G8.cell 8
     have l8:=G8.frozen 8
     have m0:w7.cell? ⟨w5.heap.size,0,none⟩=some (.slice a n c):=XO.cell 0
     have m1:w7.cell? ⟨w5.heap.size,1,none⟩=some (.int .i64 W):=XO.cell 1
     have m2:w7.cell? ⟨w5.heap.size,2,none⟩=some (.int .i64 D):=XO.cell 2
     have m3:w7.cell? ⟨w5.heap.size,3,none⟩=some (.int .i64 R):=XO.cell 3
     have m4:w7.cell? ⟨w5.heap.size,4,none⟩=some (.int .i64 0):=XO.cell 4
     have m5:w7.cell? ⟨w5.heap.size,5,none⟩=some (.bool false):=XO.cell 5
     have m6:w7.cell? ⟨w5.heap.size,6,none⟩=some (.bool false):=XO.cell 6
     have m7:w7.cell? ⟨w5.heap.size,7,none⟩=some (.chan (some q)):=XO.cell 7
     have m8:w7.cell? ⟨w5.heap.size,8,none⟩=some (.map (some m)):=XO.cell 8
     have hbC:Below w.heap.size w w7:=hbB.trans (YP.mono hzB)
     have HL:=hid (vJ _ _ _ _ _ _ _ _ _ _ _ (show aU (((((((((w7.setCell ⟨w0.heap.size,0,none⟩ (.slice a n c)).setCell ⟨w0.heap.size,1,none⟩ (.int .i64 W)).setCell ⟨w0.heap.size,2,none⟩ (.int .i64 D)).setCell ⟨w0.heap.size,3,none⟩ (.int .i64 R)).setCell ⟨w0.heap.size,4,none⟩ (.int .i64 0)).setCell ⟨w0.heap.size,5,none⟩ (.bool false)).setCell ⟨w0.heap.size,6,none⟩ (.bool false)).setCell ⟨w0.heap.size,7,none⟩ (.chan (some q))).setCell ⟨w0.heap.size,8,none⟩ (.map (some m))) w0.heap.size 65 [.slice a n c,.int .i64 W,.int .i64 D,.int .i64 R,.int .i64 0,.bool false,.bool false,.chan (some q),.map (some m)] from(((((((((G8.set 0 _).set 1 _).set 2 _).set 3 _).set 4 _).set 5 _).set 6 _).set 7 _).set 8 _)))
     have HB:=hid (((((((((hbC.setCell (p:=⟨w0.heap.size,0,none⟩) hle (.slice a n c)).setCell (p:=⟨w0.heap.size,1,none⟩) hle (.int .i64 W)).setCell (p:=⟨w0.heap.size,2,none⟩) hle (.int .i64 D)).setCell (p:=⟨w0.heap.size,3,none⟩) hle (.int .i64 R)).setCell (p:=⟨w0.heap.size,4,none⟩) hle (.int .i64 0)).setCell (p:=⟨w0.heap.size,5,none⟩) hle (.bool false)).setCell (p:=⟨w0.heap.size,6,none⟩) hle (.bool false)).setCell (p:=⟨w0.heap.size,7,none⟩) hle (.chan (some q))).setCell (p:=⟨w0.heap.size,8,none⟩) hle (.map (some m)))
     have HBw:Hid (Below w5.heap.size w5 (((((((((w7.setCell ⟨w0.heap.size,0,none⟩ (.slice a n c)).setCell ⟨w0.heap.size,1,none⟩ (.int .i64 W)).setCell ⟨w0.heap.size,2,none⟩ (.int .i64 D)).setCell ⟨w0.heap.size,3,none⟩ (.int .i64 R)).setCell ⟨w0.heap.size,4,none⟩ (.int .i64 0)).setCell ⟨w0.heap.size,5,none⟩ (.bool false)).setCell ⟨w0.heap.size,6,none⟩ (.bool false)).setCell ⟨w0.heap.size,7,none⟩ (.chan (some q))).setCell ⟨w0.heap.size,8,none⟩ (.map (some m)))∨True):=Or.inr trivial
     have HCh:Hid (aN (fun k=>k=w0.heap.size) w7 (((((((((w7.setCell ⟨w0.heap.size,0,none⟩ (.slice a n c)).setCell ⟨w0.heap.size,1,none⟩ (.int .i64 W)).setCell ⟨w0.heap.size,2,none⟩ (.int .i64 D)).setCell ⟨w0.heap.size,3,none⟩ (.int .i64 R)).setCell ⟨w0.heap.size,4,none⟩ (.int .i64 0)).setCell ⟨w0.heap.size,5,none⟩ (.bool false)).setCell ⟨w0.heap.size,6,none⟩ (.bool false)).setCell ⟨w0.heap.size,7,none⟩ (.chan (some q))).setCell ⟨w0.heap.size,8,none⟩ (.map (some m)))):=hid ((((((((((aN.refl (fun k=>k=w0.heap.size) w7).setCell ⟨w0.heap.size,0,none⟩ _ (fun _=>rfl)).setCell ⟨w0.heap.size,1,none⟩ _ (fun _=>rfl)).setCell ⟨w0.heap.size,2,none⟩ _ (fun _=>rfl)).setCell ⟨w0.heap.size,3,none⟩ _ (fun _=>rfl)).setCell ⟨w0.heap.size,4,none⟩ _ (fun _=>rfl)).setCell ⟨w0.heap.size,5,none⟩ _ (fun _=>rfl)).setCell ⟨w0.heap.size,6,none⟩ _ (fun _=>rfl)).setCell ⟨w0.heap.size,7,none⟩ _ (fun _=>rfl)).setCell ⟨w0.heap.size,8,none⟩ _ (fun _=>rfl))
     have HQ7:=hid hQ7
     have HW7:=hid hW7
     have HI7:=hid (HI.out.below YP)
     clear G8 XO hQ7 hW7 hC7 YP
     go_wp2_with fail
     (try simp only[Exit.inBlock,Exit.then])
     refine⟨rfl,.tuple #[.agg #[.slice a n c,.int .i64 W,.int .i64 D,.int .i64 R,.int .i64 0,.bool false,.bool false,.chan (some q),.map (some m)],.int .i64 0],?_,HB.out,Or.inr (Or.inr ⟨a,n,c,q,m,X,rfl,HA.out,HO.out,h4,HP.out,hl,?_,by omega,by omega,HQ7.out.fZ HCh.out (by omega),HW7.out.fZ HCh.out (by omega)⟩)⟩
     ·rw[results_cell_tmp rfl]
      have:=HL.out
      simp[asAddr,this]
     ·have hti:=HI7.out
      exact⟨own_base (HCh.out.own hti.own (fun g hg e=>by have:=(hti.own.lt g hg).1;omega)) (by omega),fun x hx=>⟨own_base (HCh.out.own (hti.nest x hx).f (fun g hg e=>by have:=((hti.nest x hx).f.lt g hg).1;omega)) (by omega),own_base (HCh.out.own (hti.nest x hx).n (fun g hg e=>by have:=((hti.nest x hx).n.lt g hg).1;omega)) (by omega)⟩⟩
 ·have HA:=hid (show ∃ E0 P0,bM s E0 P0∧E0≠0 from⟨E,P,hA,hE0⟩)
  obtain⟨hr1,hr2⟩:=hA.range
  have hEB:(E != 0)=true:=by simpa using hE0
  clear hA hR
  have HL:=hid (vJ _ _ _ _ _ _ _ _ _ _ _ (show aU (((((((((w2.setCell ⟨w0.heap.size,0,none⟩ (.slice none 0 0)).setCell ⟨w0.heap.size,1,none⟩ (.int .i64 0)).setCell ⟨w0.heap.size,2,none⟩ (.int .i64 0)).setCell ⟨w0.heap.size,3,none⟩ (.int .i64 0)).setCell ⟨w0.heap.size,4,none⟩ (.int .i64 0)).setCell ⟨w0.heap.size,5,none⟩ (.bool false)).setCell ⟨w0.heap.size,6,none⟩ (.bool false)).setCell ⟨w0.heap.size,7,none⟩ (.chan none)).setCell ⟨w0.heap.size,8,none⟩ (.map none)) w0.heap.size 65 [.slice none 0 0,.int .i64 0,.int .i64 0,.int .i64 0,.int .i64 0,.bool false,.bool false,.chan none,.map none] from(((((((((hR2.set 0 _).set 1 _).set 2 _).set 3 _).set 4 _).set 5 _).set 6 _).set 7 _).set 8 _)))
  have HB:=hid (((((((((hbB.setCell (p:=⟨w0.heap.size,0,none⟩) hle (.slice none 0 0)).setCell (p:=⟨w0.heap.size,1,none⟩) hle (.int .i64 0)).setCell (p:=⟨w0.heap.size,2,none⟩) hle (.int .i64 0)).setCell (p:=⟨w0.heap.size,3,none⟩) hle (.int .i64 0)).setCell (p:=⟨w0.heap.size,4,none⟩) hle (.int .i64 0)).setCell (p:=⟨w0.heap.size,5,none⟩) hle (.bool false)).setCell (p:=⟨w0.heap.size,6,none⟩) hle (.bool false)).setCell (p:=⟨w0.heap.size,7,none⟩) hle (.chan none)).setCell (p:=⟨w0.heap.size,8,none⟩) hle (.map none))
  clear hR2
  go_wp2_with fail
  (try simp only[Exit.inBlock,Exit.then])
  refine⟨rfl,.tuple #[.agg #[.slice none 0 0,.int .i64 0,.int .i64 0,.int .i64 0,.int .i64 0,.bool false,.bool false,.chan none,.map none],.int .i64 8],?_,HB.out,Or.inl ⟨rfl,HA.out⟩⟩
  rw[results_cell_tmp rfl]
  have:=HL.out
  simp[asAddr,this]
def Px (s:ByteArray) (W D R:Int) (token:Nat) (w:World) (e:Ending) (w':World):Prop:=Below w.heap.size w w' ∧
 ((e=.returned (.tuple #[.pointer none,.int .i64 8])∧∃ E P,bM s E P∧E≠0) ∨
  (e=.returned (.tuple #[.pointer none,.int .i64 9])∧bM s 0 0∧iU W D R=false) ∨
  (∃ (b:Nat) (a:Option Addr) (n c q m:Nat) (X:List bY),e=.returned (.tuple #[.pointer (some ⟨b,0,none⟩),.int .i64 0])∧bM s 0 0∧iU W D R=true∧s.size≤400∧(dD s).1=some (X.map (fun x=>x.it))∧X.length≤400∧fQ w' w.heap.size (.slice a n c) X∧w.heap.size≤b∧w.heap.size≤q∧w.heap.size≤m∧aW w' b 80 (.slice a n c) (.int .i64 W) (.int .i64 D) (.int .i64 R) 0 false false (jV token 0 (.slice none 0 0) 0 (.slice none 0 0) 0 (.slice none 0 0) 0) [] q m))
theorem FM (s:ByteArray) (W D R:Int) (token:Nat) (w:World) (hE:Env w) (hs:s.size≤maxLen) :
  Calls Tryz.prog 9 #[.string s,.agg #[.int .i64 W,.int .i64 D,.int .i64 R],.int .u64 token] w (Px s W D R token w):=by
 have hb0:Below w.heap.size w (w.alloc (.cells #[.int .i64 W,.int .i64 D,.int .i64 R] 26)):=(Below.refl _ _).alloc (Nat.le_refl _) _
 have hC0:aU (w.alloc (.cells #[.int .i64 W,.int .i64 D,.int .i64 R] 26)) w.heap.size 26 [.int .i64 W,.int .i64 D,.int .i64 R]:=heap_alloc_new w _
 obtain⟨w0,hw0⟩:∃ w0,w.alloc (.cells #[.int .i64 W,.int .i64 D,.int .i64 R] 26)=w0:=⟨_,rfl⟩
 rw[hw0] at hb0 hC0
 have c0:w0.cell? ⟨w.heap.size,0,none⟩=some (.int .i64 W):=hC0.cell 0
 have c1:w0.cell? ⟨w.heap.size,1,none⟩=some (.int .i64 D):=hC0.cell 1
 have c2:w0.cell? ⟨w.heap.size,2,none⟩=some (.int .i64 R):=hC0.cell 2
 have HE:=hid (hE.below hb0)
 have hz0:=hb0.size
 clear hE hC0
 go_enter func9,ntmps9
 go_wp2_with fail
 refine(EK s W D R w0 HE.out hs).mono ?_;rintro e w1 ⟨hb1,⟨rfl,hA⟩ | ⟨rfl,hA,hO⟩ | ⟨a,n,c,q,m,X,rfl,hA,hO,h4,hp,hl,hI,hq,hm,hQ,hW⟩⟩
 ·have HA:=hid hA
  have HB:=hid (show Below w.heap.size w (w1.alloc (.cells #[.slice none 0 0,.int .i64 0,.int .i64 0,.int .i64 0,.int .i64 0,.bool false,.bool false,.chan none,.map none] 65)) from(hb0.trans (hb1.mono hz0)).alloc (by have:=hb1.size;omega) _)
  clear hA
  go_wp2_with fail
  go_ret2
  exact⟨HB.out,Or.inl ⟨rfl,HA.out⟩⟩
 ·have HA:=hid hA
  have HO:=hid hO
  have HB:=hid (show Below w.heap.size w (w1.alloc (.cells #[.slice none 0 0,.int .i64 0,.int .i64 0,.int .i64 0,.int .i64 0,.bool false,.bool false,.chan none,.map none] 65)) from(hb0.trans (hb1.mono hz0)).alloc (by have:=hb1.size;omega) _)
  clear hA hO
  go_wp2_with fail
  go_ret2
  exact⟨HB.out,Or.inr (Or.inl ⟨rfl,HA.out,HO.out⟩)⟩
 ·have YQ:Below w1.heap.size w1 (w1.alloc (.cells #[.slice a n c,.int .i64 W,.int .i64 D,.int .i64 R,.int .i64 0,.bool false,.bool false,.chan (some q),.map (some m)] 65)):=(Below.refl _ _).alloc (Nat.le_refl _) _
  have hbC:Below w1.heap.size w1 ((w1.alloc (.cells #[.slice a n c,.int .i64 W,.int .i64 D,.int .i64 R,.int .i64 0,.bool false,.bool false,.chan (some q),.map (some m)] 65)).alloc (.cells #[.slice a n c,.int .i64 W,.int .i64 D,.int .i64 R,.int .i64 0,.bool false,.bool false,.chan (some q),.map (some m),.int .u64 token,.int .u64 0,.int .u64 0,.int .i64 0,.slice none 0 0,.int .u64 0,.slice none 0 0,.int .i64 0,.slice none 0 0,.int .i64 0] 80)):=YQ.alloc YQ.size _
  have hBC:aU ((w1.alloc (.cells #[.slice a n c,.int .i64 W,.int .i64 D,.int .i64 R,.int .i64 0,.bool false,.bool false,.chan (some q),.map (some m)] 65)).alloc (.cells #[.slice a n c,.int .i64 W,.int .i64 D,.int .i64 R,.int .i64 0,.bool false,.bool false,.chan (some q),.map (some m),.int .u64 token,.int .u64 0,.int .u64 0,.int .i64 0,.slice none 0 0,.int .u64 0,.slice none 0 0,.int .i64 0,.slice none 0 0,.int .i64 0] 80)) (w1.alloc (.cells #[.slice a n c,.int .i64 W,.int .i64 D,.int .i64 R,.int .i64 0,.bool false,.bool false,.chan (some q),.map (some m)] 65)).heap.size 80 [.slice a n c,.int .i64 W,.int .i64 D,.int .i64 R,.int .i64 0,.bool false,.bool false,.chan (some q),.map (some m),.int .u64 token,.int .u64 0,.int .u64 0,.int .i64 0,.slice none 0 0,.int .u64 0,.slice none 0 0,.int .i64 0,.slice none 0 0,.int .i64 0]:=heap_alloc_new _ _
  have hz1:=hb1.size
  have hMz:(w1.alloc (.cells #[.slice a n c,.int .i64 W,.int .i64 D,.int .i64 R,.int .i64 0,.bool false,.bool false,.chan (some q),.map (some m)] 65)).heap.size=w1.heap.size+1:=by simp
  rw[hMz] at hBC
  have ads:Below w.heap.size w ((w1.alloc (.cells #[.slice a n c,.int .i64 W,.int .i64 D,.int .i64 R,.int .i64 0,.bool false,.bool false,.chan (some q),.map (some m)] 65)).alloc (.cells #[.slice a n c,.int .i64 W,.int .i64 D,.int .i64 R,.int .i64 0,.bool false,.bool false,.chan (some q),.map (some m),.int .u64 token,.int .u64 0,.int .u64 0,.int .i64 0,.slice none 0 0,.int .u64 0,.slice none 0 0,.int .i64 0,.slice none 0 0,.int .i64 0] 80)):=(hb0.trans (hb1.mono hz0)).trans (hbC.mono (by omega))
  have HB:=hid ads
  have HBC:=hid hBC
  have HQ:=hid (hQ.fZ (F:=fun _=>False) (aN.of_below hbC) id)
  have HW:=hid (hW.fZ (F:=fun _=>False) (aN.of_below hbC) id)
  have HI:=hid (hI.below hbC)
  have HA:=hid hA
  have HO:=hid hO
  have HP:=hid hp
  clear hQ hW hI hA hO hp ads hBC hbC YQ hMz
  go_wp2_with fail
  go_ret2
  refine⟨HB.out,Or.inr (Or.inr ⟨w1.heap.size+1,a,n,c,q,m,X,rfl,HA.out,HO.out,h4,HP.out,hl,?_,by omega,by omega,by omega,⟨HBC.out,HQ.out,HW.out⟩⟩)⟩
  exact⟨own_base HI.out.own hz0,fun x hx=>⟨own_base (HI.out.nest x hx).f hz0,own_base (HI.out.nest x hx).n hz0⟩⟩
def kL (s:ByteArray) (W D R:Int) (w:World) (e:Ending) (w':World):Prop:=Below w.heap.size w w' ∧
 ((e=.returned (.tuple #[.pointer none,.int .i64 8])∧∃ E P,bM s E P∧E≠0) ∨
  (e=.returned (.tuple #[.pointer none,.int .i64 9])∧bM s 0 0∧iU W D R=false) ∨
  (∃ (b:Nat) (a:Option Addr) (n c q m:Nat) (X:List bY) (aI:Value) (ms mo:Nat) (Ts:List dU),e=.returned (.tuple #[.pointer (some ⟨b,0,none⟩),.int .i64 0])∧bM s 0 0∧iU W D R=true∧s.size≤400∧(dD s).1=some (X.map (fun x=>x.it))∧X.length≤400∧fQ w' w.heap.size (.slice a n c) X∧w.heap.size≤b∧w.heap.size≤q∧w.heap.size≤m∧aW w' b 75 (.slice a n c) (.int .i64 W) (.int .i64 D) (.int .i64 R) 0 false false (nT aI ms mo) [] q m∧iD w' w.heap.size aI Ts∧iM w.heap.size X Ts∧Void w' ms∧Void w' mo∧w.heap.size≤ms∧w.heap.size≤mo∧ms≠mo∧ms≠m∧mo≠m))
theorem pX (w:World) (o1 o2:Obj):Below w.heap.size w ((w.alloc o1).alloc o2):=by
 have h1:Below w.heap.size w (w.alloc o1):=(Below.refl _ _).alloc (Nat.le_refl _) _
 exact h1.alloc h1.size o2
theorem zh (w:World) (o1 o2:Obj):((w.alloc o1).alloc o2).heap[w.heap.size]? = (w.alloc o1).heap[w.heap.size]? :=
 ((Below.refl _ (w.alloc o1)).alloc (Nat.le_refl _) o2).block _ (by simp)
theorem zi (w:World) (o1 o2:Obj):((w.alloc o1).alloc o2).heap[w.heap.size+1]? = some o2:=by
 have:=heap_alloc_new (w.alloc o1) o2
 simpa using this
theorem YR (w:World) (o1:Obj):w.heap.size<(w.alloc o1).drew.heap.size:=by
 show w.heap.size<(w.alloc o1).heap.size
 simp
theorem YS (w:World) (o1 o2:Obj):w.heap.size<((w.alloc o1).alloc o2).drew.heap.size:=by
 show w.heap.size<((w.alloc o1).alloc o2).heap.size
 have:((w.alloc o1).alloc o2).heap.size=w.heap.size+2:=by simp
 omega
theorem YT (w:World) (o1 o2:Obj):w.heap.size+1<((w.alloc o1).alloc o2).drew.heap.size:=by
 show w.heap.size+1<((w.alloc o1).alloc o2).heap.size
 have:((w.alloc o1).alloc o2).heap.size=w.heap.size+2:=by simp
 omega
theorem G9 {w:World} {lo lo':Nat} {lv:Value} {X:List bY} (h:fQ w lo lv X) (hl:lo'≤lo):fQ w lo' lv X:=⟨own_base h.own hl,fun x hx=>⟨own_base (h.nest x hx).f hl,own_base (h.nest x hx).n hl⟩⟩
theorem iD.lower {w:World} {lo lo':Nat} {v:Value} {Ts:List dU} (h:iD w lo v Ts) (hl:lo'≤lo):iD w lo' v Ts:=⟨own_base h.row hl,h.each,h.nodup,fun t ht=>⟨own_base (h.kept t ht).1 hl,(h.kept t ht).2⟩,h.apart⟩
theorem wz {s:ByteArray} {W D R:Int} {w W0:World} {a:Option Addr} {n c q m ms mo lo lo' b:Nat} (hbz:W0.heap.size=b) {ta:Option Addr} {tn tc:Nat} {X:List bY} {Ts:List dU}
  (hq:wB W0 q []) (hw:Waits W0 m []) (hI:fQ W0 lo (.slice a n c) X) (hT:iD W0 lo' (.slice ta tn tc) Ts) (hTR:iM lo' X Ts) (hms:Void W0 ms) (hmo:Void W0 mo) (hlo:w.heap.size≤lo) (adt:w.heap.size≤lo') (lq:w.heap.size≤q) (lm:w.heap.size≤m) (lms:w.heap.size≤ms) (lmo:w.heap.size≤mo) (n1:ms≠mo) (n2:ms≠m) (n3:mo≠m)
  (hA:bM s 0 0) (hO:iU W D R=true) (h4:s.size≤400) (hp:(dD s).1=some (X.map (fun x=>x.it))) (hl:X.length≤400) (hb:Below w.heap.size w W0) :
  kL s W D R w (.returned (.tuple #[.pointer (some ⟨b,0,none⟩),.int .i64 0])) (W0.alloc (.cells #[.slice a n c,.int .i64 W,.int .i64 D,.int .i64 R,.int .i64 0,.bool false,.bool false,.chan (some q),.map (some m),.slice ta tn tc,.map (some ms),.pointer none,.int .u64 0,.slice none 0 0,.int .i64 0,.map (some mo)] 75)):=by
 subst hbz
 have hbB:Below W0.heap.size W0 (W0.alloc (.cells #[.slice a n c,.int .i64 W,.int .i64 D,.int .i64 R,.int .i64 0,.bool false,.bool false,.chan (some q),.map (some m),.slice ta tn tc,.map (some ms),.pointer none,.int .u64 0,.slice none 0 0,.int .i64 0,.map (some mo)] 75)):=(Below.refl _ _).alloc (Nat.le_refl _) _
 have Nq:aU (W0.alloc (.cells #[.slice a n c,.int .i64 W,.int .i64 D,.int .i64 R,.int .i64 0,.bool false,.bool false,.chan (some q),.map (some m),.slice ta tn tc,.map (some ms),.pointer none,.int .u64 0,.slice none 0 0,.int .i64 0,.map (some mo)] 75)) W0.heap.size 75 [.slice a n c,.int .i64 W,.int .i64 D,.int .i64 R,.int .i64 0,.bool false,.bool false,.chan (some q),.map (some m),.slice ta tn tc,.map (some ms),.pointer none,.int .u64 0,.slice none 0 0,.int .i64 0,.map (some mo)]:=heap_alloc_new W0 _
 exact⟨hb.trans (hbB.mono hb.size),Or.inr (Or.inr ⟨W0.heap.size,a,n,c,q,m,X,.slice ta tn tc,ms,mo,Ts,rfl,hA,hO,h4,hp,hl,G9 (hI.below hbB) hlo,hb.size,lq,lm,⟨Nq,hq.fZ (F:=fun _=>False) (aN.of_below hbB) id,hw.fZ (F:=fun _=>False) (aN.of_below hbB) id⟩,(hT.below hbB).lower adt,hTR.lower adt,hms.fZ (F:=fun _=>False) (aN.of_below hbB) id,hmo.fZ (F:=fun _=>False) (aN.of_below hbB) id,lms,lmo,n1,n2,n3⟩)⟩
theorem aaX {s:ByteArray} {W D R:Int} {w wM w2:World} {a:Option Addr} {n c q m lo:Nat} {ta:Option Addr} {tn tc:Nat} {X:List bY} {Ts:List dU}
  (hq:wB wM q []) (hw:Waits wM m []) (hI:fQ wM lo (.slice a n c) X) (hT:iD w2 wM.heap.size (.slice ta tn tc) Ts) (hTR:iM wM.heap.size X Ts) (hlo:w.heap.size≤lo) (lq:w.heap.size≤q) (lm:w.heap.size≤m)
  (hA:bM s 0 0) (hO:iU W D R=true) (h4:s.size≤400) (hp:(dD s).1=some (X.map (fun x=>x.it))) (hl:X.length≤400) (hb:Below w.heap.size w wM) (hb2:Below wM.heap.size wM w2) :
  kL s W D R w (.returned (.tuple #[.pointer (some ⟨w2.heap.size+1+1,0,none⟩),.int .i64 0])) (((w2.alloc (.map #[] 0)).alloc (.map #[] 0)).alloc (.cells #[.slice a n c,.int .i64 W,.int .i64 D,.int .i64 R,.int .i64 0,.bool false,.bool false,.chan (some q),.map (some m),.slice ta tn tc,.map (some w2.heap.size),.pointer none,.int .u64 0,.slice none 0 0,.int .i64 0,.map (some (w2.heap.size+1))] 75)):=by
 have hW0:Below w2.heap.size w2 ((w2.alloc (.map #[] 0)).alloc (.map #[] 0)):=pX w2 _ _
 have hz2:=hb2.size
 have hzM:=hb.size
 have hml:=hw.lt
 have iV:Below wM.heap.size wM ((w2.alloc (.map #[] 0)).alloc (.map #[] 0)):=hb2.trans (hW0.mono hz2)
 exact wz (W0:=((w2.alloc (.map #[] 0)).alloc (.map #[] 0))) (by simp) (hq.fZ (F:=fun _=>False) (aN.of_below iV) id) (hw.fZ (F:=fun _=>False) (aN.of_below iV) id) (hI.below iV) (hT.below hW0) hTR (show Void _ _ from(zh w2 _ _).trans (heap_alloc_new w2 _)) (show Void _ _ from zi w2 _ _) hlo (lo':=wM.heap.size) hzM lq lm (by omega) (by omega) (by omega) (by omega) (by omega) hA hO h4 hp hl (hb.trans (iV.mono hzM))
theorem YU {s:ByteArray} {W D R:Int} {w wM w2:World} {a:Option Addr} {n c q m lo:Nat} {ta:Option Addr} {tn tc:Nat} {X:List bY} {Ts:List dU}
  (hq:wB wM q []) (hw:Waits wM m []) (hI:fQ wM lo (.slice a n c) X) (hT:iD w2 wM.heap.size (.slice ta tn tc) Ts) (hTR:iM wM.heap.size X Ts) (hlo:w.heap.size≤lo) (lq:w.heap.size≤q) (lm:w.heap.size≤m)
  (hA:bM s 0 0) (hO:iU W D R=true) (h4:s.size≤400) (hp:(dD s).1=some (X.map (fun x=>x.it))) (hl:X.length≤400) (hb:Below w.heap.size w wM) (hb2:Below wM.heap.size wM w2) :
  kL s W D R w (.returned (.tuple #[.pointer (some ⟨w2.heap.size+1+1,0,none⟩),.int .i64 0])) (((w2.alloc (.map #[] 0)).alloc (.map #[] 0)).alloc (.cells #[.slice a n c,.int .i64 W,.int .i64 D,.int .i64 R,.int .i64 0,.bool false,.bool false,.chan (some q),.map (some m),.slice ta tn tc,.map (some (w2.heap.size+1)),.pointer none,.int .u64 0,.slice none 0 0,.int .i64 0,.map (some w2.heap.size)] 75)):=by
 have hW0:Below w2.heap.size w2 ((w2.alloc (.map #[] 0)).alloc (.map #[] 0)):=pX w2 _ _
 have hz2:=hb2.size
 have hzM:=hb.size
 have hml:=hw.lt
 have iV:Below wM.heap.size wM ((w2.alloc (.map #[] 0)).alloc (.map #[] 0)):=hb2.trans (hW0.mono hz2)
 exact wz (W0:=((w2.alloc (.map #[] 0)).alloc (.map #[] 0))) (by simp) (hq.fZ (F:=fun _=>False) (aN.of_below iV) id) (hw.fZ (F:=fun _=>False) (aN.of_below iV) id) (hI.below iV) (hT.below hW0) hTR (show Void _ _ from zi w2 _ _) (show Void _ _ from(zh w2 _ _).trans (heap_alloc_new w2 _)) hlo (lo':=wM.heap.size) hzM lq lm (by omega) (by omega) (by omega) (by omega) (by omega) hA hO h4 hp hl (hb.trans (iV.mono hzM))
theorem aaY {s:ByteArray} {W D R:Int} {w wM w2:World} {a:Option Addr} {n c q m lo:Nat} {ta:Option Addr} {tn tc:Nat} {X:List bY} {Ts:List dU} (hV1:Void w2 wM.heap.size)
  (hq:wB wM q []) (hw:Waits wM m []) (hI:fQ wM lo (.slice a n c) X) (hT:iD w2 wM.heap.size (.slice ta tn tc) Ts) (hTR:iM wM.heap.size X Ts) (hlo:w.heap.size≤lo) (lq:w.heap.size≤q) (lm:w.heap.size≤m)
  (hA:bM s 0 0) (hO:iU W D R=true) (h4:s.size≤400) (hp:(dD s).1=some (X.map (fun x=>x.it))) (hl:X.length≤400) (hb:Below w.heap.size w wM) (hb2:Below wM.heap.size wM w2) :
  kL s W D R w (.returned (.tuple #[.pointer (some ⟨w2.heap.size+1,0,none⟩),.int .i64 0])) ((w2.alloc (.map #[] 0)).alloc (.cells #[.slice a n c,.int .i64 W,.int .i64 D,.int .i64 R,.int .i64 0,.bool false,.bool false,.chan (some q),.map (some m),.slice ta tn tc,.map (some wM.heap.size),.pointer none,.int .u64 0,.slice none 0 0,.int .i64 0,.map (some w2.heap.size)] 75)):=by
 have hW0:Below w2.heap.size w2 (w2.alloc (.map #[] 0)):=(Below.refl _ _).alloc (Nat.le_refl _) _
 have hz2:=hb2.size
 have hzM:=hb.size
 have hml:=hw.lt
 have hv1:=hV1.lt
 have iV:Below wM.heap.size wM (w2.alloc (.map #[] 0)):=hb2.trans (hW0.mono hz2)
 exact wz (W0:=(w2.alloc (.map #[] 0))) (by simp) (hq.fZ (F:=fun _=>False) (aN.of_below iV) id) (hw.fZ (F:=fun _=>False) (aN.of_below iV) id) (hI.below iV) (hT.below hW0) hTR (hV1.fZ (F:=fun _=>False) (aN.of_below hW0) id) (show Void _ _ from heap_alloc_new w2 _) hlo (lo':=wM.heap.size) hzM lq lm (by omega) (by omega) (by omega) (by omega) (by omega) hA hO h4 hp hl (hb.trans (iV.mono hzM))
theorem YV {s:ByteArray} {W D R:Int} {w wM w2:World} {a:Option Addr} {n c q m lo:Nat} {ta:Option Addr} {tn tc:Nat} {X:List bY} {Ts:List dU} (hV1:Void w2 wM.heap.size)
  (hq:wB wM q []) (hw:Waits wM m []) (hI:fQ wM lo (.slice a n c) X) (hT:iD w2 wM.heap.size (.slice ta tn tc) Ts) (hTR:iM wM.heap.size X Ts) (hlo:w.heap.size≤lo) (lq:w.heap.size≤q) (lm:w.heap.size≤m)
  (hA:bM s 0 0) (hO:iU W D R=true) (h4:s.size≤400) (hp:(dD s).1=some (X.map (fun x=>x.it))) (hl:X.length≤400) (hb:Below w.heap.size w wM) (hb2:Below wM.heap.size wM w2) :
  kL s W D R w (.returned (.tuple #[.pointer (some ⟨w2.heap.size+1,0,none⟩),.int .i64 0])) ((w2.alloc (.map #[] 0)).alloc (.cells #[.slice a n c,.int .i64 W,.int .i64 D,.int .i64 R,.int .i64 0,.bool false,.bool false,.chan (some q),.map (some m),.slice ta tn tc,.map (some w2.heap.size),.pointer none,.int .u64 0,.slice none 0 0,.int .i64 0,.map (some wM.heap.size)] 75)):=by
 have hW0:Below w2.heap.size w2 (w2.alloc (.map #[] 0)):=(Below.refl _ _).alloc (Nat.le_refl _) _
 have hz2:=hb2.size
 have hzM:=hb.size
 have hml:=hw.lt
 have hv1:=hV1.lt
 have iV:Below wM.heap.size wM (w2.alloc (.map #[] 0)):=hb2.trans (hW0.mono hz2)
 exact wz (W0:=(w2.alloc (.map #[] 0))) (by simp) (hq.fZ (F:=fun _=>False) (aN.of_below iV) id) (hw.fZ (F:=fun _=>False) (aN.of_below iV) id) (hI.below iV) (hT.below hW0) hTR (show Void _ _ from heap_alloc_new w2 _) (hV1.fZ (F:=fun _=>False) (aN.of_below hW0) id) hlo (lo':=wM.heap.size) hzM lq lm (by omega) (by omega) (by omega) (by omega) (by omega) hA hO h4 hp hl (hb.trans (iV.mono hzM))
theorem aaZ {s:ByteArray} {W D R:Int} {w wM w2:World} {a:Option Addr} {n c q m lo:Nat} {ta:Option Addr} {tn tc:Nat} {X:List bY} {Ts:List dU} (hV1:Void w2 wM.heap.size) (hV2:Void w2 (wM.heap.size+1))
  (hq:wB wM q []) (hw:Waits wM m []) (hI:fQ wM lo (.slice a n c) X) (hT:iD w2 wM.heap.size (.slice ta tn tc) Ts) (hTR:iM wM.heap.size X Ts) (hlo:w.heap.size≤lo) (lq:w.heap.size≤q) (lm:w.heap.size≤m)
  (hA:bM s 0 0) (hO:iU W D R=true) (h4:s.size≤400) (hp:(dD s).1=some (X.map (fun x=>x.it))) (hl:X.length≤400) (hb:Below w.heap.size w wM) (hb2:Below wM.heap.size wM w2) :
  kL s W D R w (.returned (.tuple #[.pointer (some ⟨w2.heap.size,0,none⟩),.int .i64 0])) (w2.alloc (.cells #[.slice a n c,.int .i64 W,.int .i64 D,.int .i64 R,.int .i64 0,.bool false,.bool false,.chan (some q),.map (some m),.slice ta tn tc,.map (some wM.heap.size),.pointer none,.int .u64 0,.slice none 0 0,.int .i64 0,.map (some (wM.heap.size+1))] 75)):=by
 have hW0:Below w2.heap.size w2 w2:=Below.refl _ _
 have hz2:=hb2.size
 have hzM:=hb.size
 have hml:=hw.lt
 have hv1:=hV1.lt
 have iV:Below wM.heap.size wM w2:=hb2.trans (hW0.mono hz2)
 exact wz (W0:=w2) (by rfl) (hq.fZ (F:=fun _=>False) (aN.of_below iV) id) (hw.fZ (F:=fun _=>False) (aN.of_below iV) id) (hI.below iV) (hT.below hW0) hTR hV1 hV2 hlo (lo':=wM.heap.size) hzM lq lm (by omega) (by omega) (by omega) (by omega) (by omega) hA hO h4 hp hl (hb.trans (iV.mono hzM))
theorem YW {s:ByteArray} {W D R:Int} {w wM w2:World} {a:Option Addr} {n c q m lo:Nat} {ta:Option Addr} {tn tc:Nat} {X:List bY} {Ts:List dU} (hV1:Void w2 wM.heap.size) (hV2:Void w2 (wM.heap.size+1))
  (hq:wB wM q []) (hw:Waits wM m []) (hI:fQ wM lo (.slice a n c) X) (hT:iD w2 wM.heap.size (.slice ta tn tc) Ts) (hTR:iM wM.heap.size X Ts) (hlo:w.heap.size≤lo) (lq:w.heap.size≤q) (lm:w.heap.size≤m)
  (hA:bM s 0 0) (hO:iU W D R=true) (h4:s.size≤400) (hp:(dD s).1=some (X.map (fun x=>x.it))) (hl:X.length≤400) (hb:Below w.heap.size w wM) (hb2:Below wM.heap.size wM w2) :
  kL s W D R w (.returned (.tuple #[.pointer (some ⟨w2.heap.size,0,none⟩),.int .i64 0])) (w2.alloc (.cells #[.slice a n c,.int .i64 W,.int .i64 D,.int .i64 R,.int .i64 0,.bool false,.bool false,.chan (some q),.map (some m),.slice ta tn tc,.map (some (wM.heap.size+1)),.pointer none,.int .u64 0,.slice none 0 0,.int .i64 0,.map (some wM.heap.size)] 75)):=by
 have hW0:Below w2.heap.size w2 w2:=Below.refl _ _
 have hz2:=hb2.size
 have hzM:=hb.size
 have hml:=hw.lt
 have hv1:=hV1.lt
 have iV:Below wM.heap.size wM w2:=hb2.trans (hW0.mono hz2)
 exact wz (W0:=w2) (by rfl) (hq.fZ (F:=fun _=>False) (aN.of_below iV) id) (hw.fZ (F:=fun _=>False) (aN.of_below iV) id) (hI.below iV) (hT.below hW0) hTR hV2 hV1 hlo (lo':=wM.heap.size) hzM lq lm (by omega) (by omega) (by omega) (by omega) (by omega) hA hO h4 hp hl (hb.trans (iV.mono hzM))
theorem FN (s:ByteArray) (W D R:Int) (w:World) (hE:Env w) (hs:s.size≤maxLen) :
  Calls Tryz.prog 8 #[.string s,.agg #[.int .i64 W,.int .i64 D,.int .i64 R]] w (kL s W D R w):=by
 have hb0:Below w.heap.size w (w.alloc (.cells #[.int .i64 W,.int .i64 D,.int .i64 R] 26)):=(Below.refl _ _).alloc (Nat.le_refl _) _
 have hC0:aU (w.alloc (.cells #[.int .i64 W,.int .i64 D,.int .i64 R] 26)) w.heap.size 26 [.int .i64 W,.int .i64 D,.int .i64 R]:=heap_alloc_new w _
 obtain⟨w0,hw0⟩:∃ w0,w.alloc (.cells #[.int .i64 W,.int .i64 D,.int .i64 R] 26)=w0:=⟨_,rfl⟩
 rw[hw0] at hb0 hC0
 have c0:w0.cell? ⟨w.heap.size,0,none⟩=some (.int .i64 W):=hC0.cell 0
 have c1:w0.cell? ⟨w.heap.size,1,none⟩=some (.int .i64 D):=hC0.cell 1
 have c2:w0.cell? ⟨w.heap.size,2,none⟩=some (.int .i64 R):=hC0.cell 2
 have HE:=hid (hE.below hb0)
 have hz0:=hb0.size
 clear hE hC0
 go_enter func8,ntmps8
 go_wp2_with fail
 refine(EK s W D R w0 HE.out hs).mono ?_;rintro e w1 ⟨hb1,⟨rfl,hA⟩ | ⟨rfl,hA,hO⟩ | ⟨a,n,c,q,m,X,rfl,hA,hO,h4,hp,hl,hI,hq,hm,hQ,hW⟩⟩
 ·have HA:=hid hA
  have HB:=hid (show Below w.heap.size w (w1.alloc (.cells #[.slice none 0 0,.int .i64 0,.int .i64 0,.int .i64 0,.int .i64 0,.bool false,.bool false,.chan none,.map none] 65)) from(hb0.trans (hb1.mono hz0)).alloc (by have:=hb1.size;omega) _)
  clear hA
  go_wp2_with fail
  go_ret2
  exact⟨HB.out,Or.inl ⟨rfl,HA.out⟩⟩
 ·have HA:=hid hA
  have HO:=hid hO
  have HB:=hid (show Below w.heap.size w (w1.alloc (.cells #[.slice none 0 0,.int .i64 0,.int .i64 0,.int .i64 0,.int .i64 0,.bool false,.bool false,.chan none,.map none] 65)) from(hb0.trans (hb1.mono hz0)).alloc (by have:=hb1.size;omega) _)
  clear hA hO
  go_wp2_with fail
  go_ret2
  exact⟨HB.out,Or.inr (Or.inl ⟨rfl,HA.out,HO.out⟩)⟩
 ·have YQ:Below w1.heap.size w1 (w1.alloc (.cells #[.slice a n c,.int .i64 W,.int .i64 D,.int .i64 R,.int .i64 0,.bool false,.bool false,.chan (some q),.map (some m)] 65)):=(Below.refl _ _).alloc (Nat.le_refl _) _
  have hz1:=hb1.size
  have EY:=hid (show aU (w1.alloc (.cells #[.slice a n c,.int .i64 W,.int .i64 D,.int .i64 R,.int .i64 0,.bool false,.bool false,.chan (some q),.map (some m)] 65)) w1.heap.size 65 [.slice a n c,.int .i64 W,.int .i64 D,.int .i64 R,.int .i64 0,.bool false,.bool false,.chan (some q),.map (some m)] from heap_alloc_new w1 _)
  have HXO:=hid (Wp.of h4 hp hl)
  have HQ:=hid (hQ.fZ (F:=fun _=>False) (aN.of_below YQ) id)
  have HW:=hid (hW.fZ (F:=fun _=>False) (aN.of_below YQ) id)
  have HI:=hid (hI.below YQ)
  have HA:=hid hA
  have HO:=hid hO
  have HP:=hid hp
  have HB:=hid ((hb0.trans (hb1.mono hz0)).trans (YQ.mono (by omega)))
  have hlq:w.heap.size≤q:=by omega
  have hlm:w.heap.size≤m:=by omega
  clear hQ hW hI hA hO hp YQ
  go_wp2_with fail
  generalize (w1.alloc (.cells #[.slice a n c,.int .i64 W,.int .i64 D,.int .i64 R,.int .i64 0,.bool false,.bool false,.chan (some q),.map (some m)] 65))=wM at *
  generalize w1.heap.size=mb at *
  have akl:∀ W:World,(Instr.makeMap 70 none).run Tryz.prog W=.ok (.map (some W.heap.size)) (W.alloc (.map #[] 0)):=fun W=>rfl
  have akm:∀ W:World,(Instr.makeMap 71 none).run Tryz.prog W=.ok (.map (some W.heap.size)) (W.alloc (.map #[] 0)):=fun W=>rfl
  have j0:wM.cell? ⟨mb,0,none⟩=some (.slice a n c):=EY.out.cell 0
  have j1:wM.cell? ⟨mb,1,none⟩=some (.int .i64 W):=EY.out.cell 1
  have j2:wM.cell? ⟨mb,2,none⟩=some (.int .i64 D):=EY.out.cell 2
  have j3:wM.cell? ⟨mb,3,none⟩=some (.int .i64 R):=EY.out.cell 3
  have j4:wM.cell? ⟨mb,4,none⟩=some (.int .i64 0):=EY.out.cell 4
  have j5:wM.cell? ⟨mb,5,none⟩=some (.bool false):=EY.out.cell 5
  have j6:wM.cell? ⟨mb,6,none⟩=some (.bool false):=EY.out.cell 6
  have j7:wM.cell? ⟨mb,7,none⟩=some (.chan (some q)):=EY.out.cell 7
  have j8:wM.cell? ⟨mb,8,none⟩=some (.map (some m)):=EY.out.cell 8
  have hmb:=EY.out.lt
  generalize Value.tuple #[.agg #[.slice a n c,.int .i64 W,.int .i64 D,.int .i64 R,.int .i64 0,.bool false,.bool false,.chan (some q),.map (some m)],.int .i64 0]=tv
  generalize Value.agg #[.int .i64 W,.int .i64 D,.int .i64 R]=cv
  clear hw0 c0 c1 c2
  have HKM:=hid (show ∀ w',Below wM.heap.size wM w'→w'.cell? ⟨mb,0,none⟩=some (.slice a n c)∧w'.cell? ⟨mb,1,none⟩=some (.int .i64 W)∧w'.cell? ⟨mb,2,none⟩=some (.int .i64 D)∧w'.cell? ⟨mb,3,none⟩=some (.int .i64 R)∧w'.cell? ⟨mb,4,none⟩=some (.int .i64 0)∧w'.cell? ⟨mb,5,none⟩=some (.bool false)∧w'.cell? ⟨mb,6,none⟩=some (.bool false)∧w'.cell? ⟨mb,7,none⟩=some (.chan (some q))∧w'.cell? ⟨mb,8,none⟩=some (.map (some m)) from fun w' hw'=>⟨(EY.out.below hw').cell 0,(EY.out.below hw').cell 1,(EY.out.below hw').cell 2,(EY.out.below hw').cell 3,(EY.out.below hw').cell 4,(EY.out.below hw').cell 5,(EY.out.below hw').cell 6,(EY.out.below hw').cell 7,(EY.out.below hw').cell 8⟩)
  go_region_held3 (fun w'=>w'.cell? ⟨mb,0,none⟩=some (.slice a n c)∧w'.cell? ⟨mb,1,none⟩=some (.int .i64 W)∧w'.cell? ⟨mb,2,none⟩=some (.int .i64 D)∧w'.cell? ⟨mb,3,none⟩=some (.int .i64 R)∧w'.cell? ⟨mb,4,none⟩=some (.int .i64 0)∧w'.cell? ⟨mb,5,none⟩=some (.bool false)∧w'.cell? ⟨mb,6,none⟩=some (.bool false)∧w'.cell? ⟨mb,7,none⟩=some (.chan (some q))∧w'.cell? ⟨mb,8,none⟩=some (.map (some m)))
   (exact HKM.out _ (by repeat (first | with_reducible assumption | with_reducible exact Below.refl _ _ | with_reducible apply Below.drew | (with_reducible refine Below.alloc ?_ (by first | exact Nat.le_refl _ | exact Nq.size | (simp;done) | (simp;have:=Nq.size;omega) | (have:=Nq.size;simp;omega)) _))))
   (first | (go_at_call 19;first
   | (refine(tK wM.drew _ a n c X (HI.out.below ((Below.refl _ wM).drew)) HXO.out.nms hl).mono ?_;rintro e w2 ⟨ta,tn,tc,Ts,rfl,hT,hTR,hb2⟩;have hh:Below wM.heap.size wM wM.drew:=(Below.refl _ wM).drew;have HT:=hid (hT.lower hh.size);have ZG:=hid (hTR.lower hh.size);have Nq:Below wM.heap.size wM w2:=hh.trans (hb2.mono hh.size);have XE:=hid Nq;have hB2:=EY.out.below Nq;have k0:w2.cell? ⟨mb,0,none⟩=some (.slice a n c):=hB2.cell 0;have k1:w2.cell? ⟨mb,1,none⟩=some (.int .i64 W):=hB2.cell 1;have k2:w2.cell? ⟨mb,2,none⟩=some (.int .i64 D):=hB2.cell 2;have k3:w2.cell? ⟨mb,3,none⟩=some (.int .i64 R):=hB2.cell 3;have k4:w2.cell? ⟨mb,4,none⟩=some (.int .i64 0):=hB2.cell 4;have k5:w2.cell? ⟨mb,5,none⟩=some (.bool false):=hB2.cell 5;have k6:w2.cell? ⟨mb,6,none⟩=some (.bool false):=hB2.cell 6;have k7:w2.cell? ⟨mb,7,none⟩=some (.chan (some q)):=hB2.cell 7;have k8:w2.cell? ⟨mb,8,none⟩=some (.map (some m)):=hB2.cell 8;have hlt2:=hB2.lt;clear hT hTR hB2 hh hb2)
   | (refine(tK (wM.alloc (.map #[] 0)).drew _ a n c X (HI.out.below (((Below.refl _ wM).alloc (Nat.le_refl _) (.map #[] 0)).drew)) HXO.out.nms hl).mono ?_;rintro e w2 ⟨ta,tn,tc,Ts,rfl,hT,hTR,hb2⟩;have hh:Below wM.heap.size wM (wM.alloc (.map #[] 0)).drew:=((Below.refl _ wM).alloc (Nat.le_refl _) (.map #[] 0)).drew;have HT:=hid (hT.lower hh.size);have ZG:=hid (hTR.lower hh.size);have Nq:Below wM.heap.size wM w2:=hh.trans (hb2.mono hh.size);have XE:=hid Nq;have hB2:=EY.out.below Nq;have k0:w2.cell? ⟨mb,0,none⟩=some (.slice a n c):=hB2.cell 0;have k1:w2.cell? ⟨mb,1,none⟩=some (.int .i64 W):=hB2.cell 1;have k2:w2.cell? ⟨mb,2,none⟩=some (.int .i64 D):=hB2.cell 2;have k3:w2.cell? ⟨mb,3,none⟩=some (.int .i64 R):=hB2.cell 3;have k4:w2.cell? ⟨mb,4,none⟩=some (.int .i64 0):=hB2.cell 4;have k5:w2.cell? ⟨mb,5,none⟩=some (.bool false):=hB2.cell 5;have k6:w2.cell? ⟨mb,6,none⟩=some (.bool false):=hB2.cell 6;have k7:w2.cell? ⟨mb,7,none⟩=some (.chan (some q)):=hB2.cell 7;have k8:w2.cell? ⟨mb,8,none⟩=some (.map (some m)):=hB2.cell 8;have hlt2:=hB2.lt;have HV1:Hid (Void w2 wM.heap.size):=hid ((hb2.block wM.heap.size (YR _ _)).trans (heap_alloc_new wM _));clear hT hTR hB2 hh hb2)
   | (refine(tK ((wM.alloc (.map #[] 0)).alloc (.map #[] 0)).drew _ a n c X (HI.out.below ((pX wM (.map #[] 0) (.map #[] 0)).drew)) HXO.out.nms hl).mono ?_;rintro e w2 ⟨ta,tn,tc,Ts,rfl,hT,hTR,hb2⟩;have hh:Below wM.heap.size wM ((wM.alloc (.map #[] 0)).alloc (.map #[] 0)).drew:=(pX wM (.map #[] 0) (.map #[] 0)).drew;have HT:=hid (hT.lower hh.size);have ZG:=hid (hTR.lower hh.size);have Nq:Below wM.heap.size wM w2:=hh.trans (hb2.mono hh.size);have XE:=hid Nq;have hB2:=EY.out.below Nq;have k0:w2.cell? ⟨mb,0,none⟩=some (.slice a n c):=hB2.cell 0;have k1:w2.cell? ⟨mb,1,none⟩=some (.int .i64 W):=hB2.cell 1;have k2:w2.cell? ⟨mb,2,none⟩=some (.int .i64 D):=hB2.cell 2;have k3:w2.cell? ⟨mb,3,none⟩=some (.int .i64 R):=hB2.cell 3;have k4:w2.cell? ⟨mb,4,none⟩=some (.int .i64 0):=hB2.cell 4;have k5:w2.cell? ⟨mb,5,none⟩=some (.bool false):=hB2.cell 5;have k6:w2.cell? ⟨mb,6,none⟩=some (.bool false):=hB2.cell 6;have k7:w2.cell? ⟨mb,7,none⟩=some (.chan (some q)):=hB2.cell 7;have k8:w2.cell? ⟨mb,8,none⟩=some (.map (some m)):=hB2.cell 8;have hlt2:=hB2.lt;have HV1:Hid (Void w2 wM.heap.size):=hid ((hb2.block wM.heap.size (YS _ _ _)).trans ((zh wM _ _).trans (heap_alloc_new wM _)));have HV2:Hid (Void w2 (wM.heap.size+1)):=hid ((hb2.block (wM.heap.size+1) (YT _ _ _)).trans (zi wM _ _));clear hT hTR hB2 hh hb2)))
  all_goals
   go_wp2_with fail
   go_ret2
   first
   | exact aaX HQ.out HW.out HI.out HT.out ZG.out hz0 hlq hlm HA.out HO.out h4 HP.out hl HB.out XE.out
   | exact YU HQ.out HW.out HI.out HT.out ZG.out hz0 hlq hlm HA.out HO.out h4 HP.out hl HB.out XE.out
   | exact aaY HV1.out HQ.out HW.out HI.out HT.out ZG.out hz0 hlq hlm HA.out HO.out h4 HP.out hl HB.out XE.out
   | exact YV HV1.out HQ.out HW.out HI.out HT.out ZG.out hz0 hlq hlm HA.out HO.out h4 HP.out hl HB.out XE.out
   | exact aaZ HV1.out HV2.out HQ.out HW.out HI.out HT.out ZG.out hz0 hlq hlm HA.out HO.out h4 HP.out hl HB.out XE.out
   | exact YW HV1.out HV2.out HQ.out HW.out HI.out HT.out ZG.out hz0 hlq hlm HA.out HO.out h4 HP.out hl HB.out XE.out
theorem YX {w:World} {lo lo':Nat} {lv:Value} {X:List bY} (h:fQ w lo lv X) (hl:lo'≤lo):fQ w lo' lv X:=G9 h hl
def WT (s:ByteArray) (W D R:Int) (token:Nat) (lo:Nat) (w':World) (x:Nat):Prop:=∃ (b:Nat) (a:Option Addr) (n c q m:Nat) (X:List bY),aU w' x 54 [.pointer (some ⟨b,0,none⟩)]∧lo≤x∧bM s 0 0∧iU W D R=true∧s.size≤400∧(dD s).1=some (X.map (fun x=>x.it))∧X.length≤400∧fQ w' lo (.slice a n c) X∧lo≤b∧lo≤q∧lo≤m∧aW w' b 80 (.slice a n c) (.int .i64 W) (.int .i64 D) (.int .i64 R) 0 false false (jV token 0 (.slice none 0 0) 0 (.slice none 0 0) 0 (.slice none 0 0) 0) [] q m
def WU (s:ByteArray) (W D R:Int) (lo:Nat) (w':World) (x:Nat):Prop:=∃ (b:Nat) (a:Option Addr) (n c q m:Nat) (X:List bY) (aI:Value) (ms mo:Nat) (Ts:List dU),aU w' x 49 [.pointer (some ⟨b,0,none⟩)]∧lo≤x∧bM s 0 0∧iU W D R=true∧s.size≤400∧(dD s).1=some (X.map (fun x=>x.it))∧X.length≤400∧fQ w' lo (.slice a n c) X∧lo≤b∧lo≤q∧lo≤m∧aW w' b 75 (.slice a n c) (.int .i64 W) (.int .i64 D) (.int .i64 R) 0 false false (nT aI ms mo) [] q m∧iD w' lo aI Ts∧iM lo X Ts∧Void w' ms∧Void w' mo∧lo≤ms∧lo≤mo∧ms≠mo∧ms≠m∧mo≠m
theorem xG (s:ByteArray) (W D R:Int) (token:Nat) (w:World) (hE:Env w) (hs:s.size≤maxLen) :
  Calls Tryz.prog 5 #[.string s,.agg #[.int .i64 W,.int .i64 D,.int .i64 R],.int .u64 token] w (fun e w'=>Below w.heap.size w w' ∧
   ((e=.returned (.tuple #[.pointer none,.int .i64 8])∧∃ E P,bM s E P∧E≠0)∨(e=.returned (.tuple #[.pointer none,.int .i64 9])∧bM s 0 0∧iU W D R=false)∨∃ x,e=.returned (.tuple #[.pointer (some ⟨x,0,none⟩),.int .i64 0])∧WT s W D R token w.heap.size w' x)):=by
 have hb0:Below w.heap.size w (w.alloc (.cells #[.int .i64 W,.int .i64 D,.int .i64 R] 26)):=(Below.refl _ _).alloc (Nat.le_refl _) _
 have hC0:aU (w.alloc (.cells #[.int .i64 W,.int .i64 D,.int .i64 R] 26)) w.heap.size 26 [.int .i64 W,.int .i64 D,.int .i64 R]:=heap_alloc_new w _
 obtain⟨w0,hw0⟩:∃ w0,w.alloc (.cells #[.int .i64 W,.int .i64 D,.int .i64 R] 26)=w0:=⟨_,rfl⟩
 rw[hw0] at hb0 hC0
 have c0:w0.cell? ⟨w.heap.size,0,none⟩=some (.int .i64 W):=hC0.cell 0
 have c1:w0.cell? ⟨w.heap.size,1,none⟩=some (.int .i64 D):=hC0.cell 1
 have c2:w0.cell? ⟨w.heap.size,2,none⟩=some (.int .i64 R):=hC0.cell 2
 have HE:=hid (hE.below hb0)
 have hz0:=hb0.size
 clear hE hC0
 go_enter func5,ntmps5
 go_wp2_with fail
 refine(FM s W D R token w0 HE.out hs).mono ?_;rintro e w1 ⟨hb1,⟨rfl,hA⟩ | ⟨rfl,hA,hO⟩ | ⟨b,a,n,c,q,m,X,rfl,hA,hO,h4,hp,hl,hI,hb,hq,hm,hE1⟩⟩
 ·have HA:=hid hA
  have HB:=hid (hb0.trans (hb1.mono hz0))
  clear hA
  go_wp2_with fail
  go_ret2
  exact⟨HB.out,Or.inl ⟨rfl,HA.out⟩⟩
 ·have HA:=hid hA
  have HO:=hid hO
  have HB:=hid (hb0.trans (hb1.mono hz0))
  clear hA hO
  go_wp2_with fail
  go_ret2
  exact⟨HB.out,Or.inr (Or.inl ⟨rfl,HA.out,HO.out⟩)⟩
 ·have hbx:Below w1.heap.size w1 (w1.alloc (.cells #[.pointer (some ⟨b,0,none⟩)] 54)):=(Below.refl _ _).alloc (Nat.le_refl _) _
  have hBx:aU (w1.alloc (.cells #[.pointer (some ⟨b,0,none⟩)] 54)) w1.heap.size 54 [.pointer (some ⟨b,0,none⟩)]:=heap_alloc_new w1 _
  have HB:=hid ((hb0.trans (hb1.mono hz0)).trans (hbx.mono (by have:=hb1.size;omega)))
  have BX:=hid (show WT s W D R token w.heap.size (w1.alloc (.cells #[.pointer (some ⟨b,0,none⟩)] 54)) w1.heap.size from⟨b,a,n,c,q,m,X,hBx,by have:=hb1.size;omega,hA,hO,h4,hp,hl,YX (hI.below hbx) hz0,by omega,by omega,by omega,hE1.below hbx⟩)
  clear hA hO hp hI hE1 hbx hBx
  go_wp2_with fail
  go_ret2
  exact⟨HB.out,Or.inr (Or.inr ⟨w1.heap.size,rfl,BX.out⟩)⟩
theorem Py (s:ByteArray) (W D R:Int) (w:World) (hE:Env w) (hs:s.size≤maxLen) :
  Calls Tryz.prog 4 #[.string s,.agg #[.int .i64 W,.int .i64 D,.int .i64 R]] w (fun e w'=>Below w.heap.size w w' ∧
   ((e=.returned (.tuple #[.pointer none,.int .i64 8])∧∃ E P,bM s E P∧E≠0)∨(e=.returned (.tuple #[.pointer none,.int .i64 9])∧bM s 0 0∧iU W D R=false)∨∃ x,e=.returned (.tuple #[.pointer (some ⟨x,0,none⟩),.int .i64 0])∧WU s W D R w.heap.size w' x)):=by
 have hb0:Below w.heap.size w (w.alloc (.cells #[.int .i64 W,.int .i64 D,.int .i64 R] 26)):=(Below.refl _ _).alloc (Nat.le_refl _) _
 have hC0:aU (w.alloc (.cells #[.int .i64 W,.int .i64 D,.int .i64 R] 26)) w.heap.size 26 [.int .i64 W,.int .i64 D,.int .i64 R]:=heap_alloc_new w _
 obtain⟨w0,hw0⟩:∃ w0,w.alloc (.cells #[.int .i64 W,.int .i64 D,.int .i64 R] 26)=w0:=⟨_,rfl⟩
 rw[hw0] at hb0 hC0
 have c0:w0.cell? ⟨w.heap.size,0,none⟩=some (.int .i64 W):=hC0.cell 0
 have c1:w0.cell? ⟨w.heap.size,1,none⟩=some (.int .i64 D):=hC0.cell 1
 have c2:w0.cell? ⟨w.heap.size,2,none⟩=some (.int .i64 R):=hC0.cell 2
 have HE:=hid (hE.below hb0)
 have hz0:=hb0.size
 clear hE hC0
 go_enter func4,ntmps4
 go_wp2_with fail
 refine(FN s W D R w0 HE.out hs).mono ?_;rintro e w1 ⟨hb1,⟨rfl,hA⟩ | ⟨rfl,hA,hO⟩ | ⟨b,a,n,c,q,m,X,aI,ms,mo,Ts,rfl,hA,hO,h4,hp,hl,hI,hb,hq,hm,hE1,hT,hTR,hvs,hvo,l1,l2,d1,d2,d3⟩⟩
 ·have HA:=hid hA
  have HB:=hid (hb0.trans (hb1.mono hz0))
  clear hA
  go_wp2_with fail
  go_ret2
  exact⟨HB.out,Or.inl ⟨rfl,HA.out⟩⟩
 ·have HA:=hid hA
  have HO:=hid hO
  have HB:=hid (hb0.trans (hb1.mono hz0))
  clear hA hO
  go_wp2_with fail
  go_ret2
  exact⟨HB.out,Or.inr (Or.inl ⟨rfl,HA.out,HO.out⟩)⟩
 ·have hbx:Below w1.heap.size w1 (w1.alloc (.cells #[.pointer (some ⟨b,0,none⟩)] 49)):=(Below.refl _ _).alloc (Nat.le_refl _) _
  have hBx:aU (w1.alloc (.cells #[.pointer (some ⟨b,0,none⟩)] 49)) w1.heap.size 49 [.pointer (some ⟨b,0,none⟩)]:=heap_alloc_new w1 _
  have HB:=hid ((hb0.trans (hb1.mono hz0)).trans (hbx.mono (by have:=hb1.size;omega)))
  have BX:=hid (show WU s W D R w.heap.size (w1.alloc (.cells #[.pointer (some ⟨b,0,none⟩)] 49)) w1.heap.size from⟨b,a,n,c,q,m,X,aI,ms,mo,Ts,hBx,by have:=hb1.size;omega,hA,hO,h4,hp,hl,YX (hI.below hbx) hz0,by omega,by omega,by omega,hE1.below hbx,(hT.below hbx).lower hz0,hTR.lower hz0,hvs.fZ (F:=fun _=>False) (aN.of_below hbx) id,hvo.fZ (F:=fun _=>False) (aN.of_below hbx) id,by omega,by omega,d1,d2,d3⟩)
  clear hA hO hp hI hE1 hbx hBx hT hTR hvs hvo
  go_wp2_with fail
  go_ret2
  exact⟨HB.out,Or.inr (Or.inr ⟨w1.heap.size,rfl,BX.out⟩)⟩
end Go.Proofs.YtgalebcpagmohaaGreatDoor
