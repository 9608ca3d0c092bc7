/- Package ends: the closures of Poll and Answer; a stream's event, while it has nothing to tell. -/
import Derived.Test.YtgalebcpagmohaaGreatDoorMDA
import Derived.Laws.OwnMore
import Derived.Deep.RegionLaw
import Derived.Lib.SliceRun
set_option linter.unusedSimpArgs false
set_option linter.unusedVariables false
set_option maxHeartbeats 4000000
set_option maxRecDepth 100000
namespace Go.Proofs.YtgalebcpagmohaaGreatDoor
open Go.Proofs.Tryz
open Go.RowKit Go.Conc
theorem Bh (b:Nat) (xs:List Value) (n num:Int) (cb:Nat) (w:World) (hB:aU w b 203 xs) (h0:xs[0]? = some (.int .i64 n)) (hc:w.cell? ⟨cb,0,none⟩=some (.int .i64 num)) :
  Calls Tryz.prog 125 #[jr b,.pointer (some ⟨cb,0,none⟩)] w (fun e w'=>e=.returned (.bool (n==num))∧Below w.heap.size w w'):=by
 unfold jr
 have d0:w.cell? ⟨b,0,none⟩=some (.int .i64 n):=(hB.cell 0).trans h0
 clear hB h0
 go_enter func125,ntmps125
 go_wp2_with fail
 go_region
 all_goals
  go_wp2_with fail
  go_ret
  exact⟨rfl,(Below.refl _ _).drew⟩
theorem xU (b:Nat) (xs:List Value) (n num:Int) (cb:Nat) (w:World) (hB:aU w b 209 xs) (h0:xs[0]? = some (.int .i64 n)) (hc:w.cell? ⟨cb,0,none⟩=some (.int .i64 num)) :
  Calls Tryz.prog 129 #[jr b,.pointer (some ⟨cb,0,none⟩)] w (fun e w'=>e=.returned (.bool (n==num))∧Below w.heap.size w w'):=by
 unfold jr
 have d0:w.cell? ⟨b,0,none⟩=some (.int .i64 n):=(hB.cell 0).trans h0
 clear hB h0
 go_enter func129,ntmps129
 go_wp2_with fail
 go_region
 all_goals
  go_wp2_with fail
  go_ret
  exact⟨rfl,(Below.refl _ _).drew⟩
theorem jD (w:World) (b:Nat) (v0 v1 v2:Value) (h:aU w b 123 [v0,v1,v2]):(loadVar 123 ⟨b,0,none⟩).run Tryz.prog w=.ok (.agg #[v0,v1,v2]) w:=by
 have e0:w.cell? ⟨b,0,none⟩=some v0:=h.cell 0
 have e1:w.cell? ⟨b,1,none⟩=some v1:=h.cell 1
 have e2:w.cell? ⟨b,2,none⟩=some v2:=h.cell 2
 simp[go_sem,e0,e1,e2]
theorem NK (w:World) (b:Nat) (xs:List Value) (hB:aU w b 203 xs) (h13:xs[13]? = some (.slice none 0 0)) (h14:xs[14]? = some (.int .i64 0)) :
  Calls Tryz.prog 126 #[jr b] w (fun e w'=>e=.returned (.agg #[.int .i64 0,.string ⟨#[]⟩,.string ⟨#[]⟩])∧Below w.heap.size w w'):=by
 unfold jr
 have hb0:Below w.heap.size w (w.alloc (.cells #[.int .i64 0,.string ⟨#[]⟩,.string ⟨#[]⟩] 123)):=(Below.refl _ _).alloc (Nat.le_refl _) _
 have hB0:aU (w.alloc (.cells #[.int .i64 0,.string ⟨#[]⟩,.string ⟨#[]⟩] 123)) w.heap.size 123 [.int .i64 0,.string ⟨#[]⟩,.string ⟨#[]⟩]:=heap_alloc_new w _
 have hS:=hB.below hb0
 obtain⟨w0,hw0⟩:∃ w0,w.alloc (.cells #[.int .i64 0,.string ⟨#[]⟩,.string ⟨#[]⟩] 123)=w0:=⟨_,rfl⟩
 rw[hw0] at hb0 hB0 hS
 have d13:w0.cell? ⟨b,13,none⟩=some (.slice none 0 0):=(hS.cell 13).trans h13
 have d14:w0.cell? ⟨b,14,none⟩=some (.int .i64 0):=(hS.cell 14).trans h14
 have e0:w0.cell? ⟨w.heap.size,0,none⟩=some (.int .i64 0):=hB0.cell 0
 have e1:w0.cell? ⟨w.heap.size,1,none⟩=some (.string ⟨#[]⟩):=hB0.cell 1
 have e2:w0.cell? ⟨w.heap.size,2,none⟩=some (.string ⟨#[]⟩):=hB0.cell 2
 have g0:=hB0.frozen 0
 have g1:=hB0.frozen 1
 have g2:=hB0.frozen 2
 have HL:=hid (jD _ _ _ _ _ (show aU (((w0.setCell ⟨w.heap.size,0,none⟩ (.int .i64 0)).setCell ⟨w.heap.size,1,none⟩ (.string ⟨#[]⟩)).setCell ⟨w.heap.size,2,none⟩ (.string ⟨#[]⟩)) w.heap.size 123 [.int .i64 0,.string ⟨#[]⟩,.string ⟨#[]⟩] from((hB0.set 0 _).set 1 _).set 2 _))
 have HB:=hid (((hb0.setCell (p:=⟨w.heap.size,0,none⟩) (Nat.le_refl _) (.int .i64 0)).setCell (p:=⟨w.heap.size,1,none⟩) (Nat.le_refl _) (.string ⟨#[]⟩)).setCell (p:=⟨w.heap.size,2,none⟩) (Nat.le_refl _) (.string ⟨#[]⟩))
 clear hB hS hB0 h13 h14
 go_enter func126,ntmps126
 go_wp2_with fail
 (try simp only[Exit.inBlock,Exit.then])
 refine⟨rfl,.agg #[.int .i64 0,.string ⟨#[]⟩,.string ⟨#[]⟩],?_,rfl,HB.out⟩
 have:=HL.out
 simp[results,Tryz.results126,asAddr,this]
structure xW (w:World) (lo:Nat) (v:Value) (Bs:List Nat):Prop where
 row:rJ w lo 168 v Bs
 each:∀ i (hi:i<Bs.length),∃ xs,aU w Bs[i] 209 xs∧xs[0]? = some (.int .i64 i)∧xs[3]? = some (.int .i64 0)∧xs[4]? = some (.string ⟨#[]⟩)∧xs[5]? = some (.string ⟨#[]⟩)
theorem xW.below {w w':World} {lo:Nat} {v:Value} {Bs:List Nat} (h:xW w lo v Bs) (hb:Below w.heap.size w w'):xW w' lo v Bs:=⟨h.row.below hb,fun i hi=>by
 obtain⟨xs,h1,h2⟩:=h.each i hi
 exact⟨xs,h1.below hb,h2⟩⟩
theorem Q5 (w:World) (b:Nat) (i0 i1 i2 i3:Value) (last:Int) (had up:Bool) (token:Nat) (silence:Int) (asked:Value) (next:Nat) (streams:Value) (made:Nat) (calls:Value) (L:List gG) (q m lo:Nat) (Bs:List Nat)
  (h:aW w b 80 i0 i1 i2 i3 last had up (jV token silence asked next streams made calls Bs.length) L q m) (hS:xW w lo calls Bs) (hl:Bs.length≤8) (num:Int) (hno:¬ (0≤num∧num<Bs.length)) :
  Calls Tryz.prog 86 #[.pointer (some ⟨b,0,none⟩),.int .i64 num] w (fun e w'=>e=.returned (.tuple #[.agg #[.int .i64 0,.string ⟨#[]⟩,.string ⟨#[]⟩],.int .i64 15])∧Below w.heap.size w w'):=by
 have hb0:Below w.heap.size w (w.alloc (.cells #[.int .i64 num] 3)):=(Below.refl _ _).alloc (Nat.le_refl _) _
 have hN0:aU (w.alloc (.cells #[.int .i64 num] 3)) w.heap.size 3 [.int .i64 num]:=heap_alloc_new w _
 have h0:=h.below hb0
 obtain⟨w0,hw0⟩:∃ w0,w.alloc (.cells #[.int .i64 num] 3)=w0:=⟨_,rfl⟩
 rw[hw0] at hb0 hN0 h0
 have hb1:Below w0.heap.size w0 (w0.alloc (.cells #[.int .i64 0,.string ⟨#[]⟩,.string ⟨#[]⟩] 123)):=(Below.refl _ _).alloc (Nat.le_refl _) _
 have hB1:aU (w0.alloc (.cells #[.int .i64 0,.string ⟨#[]⟩,.string ⟨#[]⟩] 123)) w0.heap.size 123 [.int .i64 0,.string ⟨#[]⟩,.string ⟨#[]⟩]:=heap_alloc_new w0 _
 have h1:=h0.below hb1
 have hN1:=hN0.below hb1
 obtain⟨w1,hw1⟩:∃ w1,w0.alloc (.cells #[.int .i64 0,.string ⟨#[]⟩,.string ⟨#[]⟩] 123)=w1:=⟨_,rfl⟩
 rw[hw1] at hb1 hB1 h1 hN1
 have dn:w1.cell? ⟨w.heap.size,0,none⟩=some (.int .i64 num):=hN1.cell 0
 have dm:w1.cell? ⟨b,18,none⟩=some (.int .i64 (Bs.length:Nat)):=h1.blk.cell 18
 have e0:w1.cell? ⟨w0.heap.size,0,none⟩=some (.int .i64 0):=hB1.cell 0
 have e1:w1.cell? ⟨w0.heap.size,1,none⟩=some (.string ⟨#[]⟩):=hB1.cell 1
 have e2:w1.cell? ⟨w0.heap.size,2,none⟩=some (.string ⟨#[]⟩):=hB1.cell 2
 have g0:=hB1.frozen 0
 have g1:=hB1.frozen 1
 have g2:=hB1.frozen 2
 have iV:Below w.heap.size w w1:=hb0.trans (hb1.mono hb0.size)
 have hlo:=hb0.size
 have HL:=hid (jD _ _ _ _ _ (show aU (((w1.setCell ⟨w0.heap.size,0,none⟩ (.int .i64 0)).setCell ⟨w0.heap.size,1,none⟩ (.string ⟨#[]⟩)).setCell ⟨w0.heap.size,2,none⟩ (.string ⟨#[]⟩)).drew w0.heap.size 123 [.int .i64 0,.string ⟨#[]⟩,.string ⟨#[]⟩] from((hB1.set 0 _).set 1 _).set 2 _))
 have HB:=hid (((iV.setCell (p:=⟨w0.heap.size,0,none⟩) hlo (.int .i64 0)).setCell (p:=⟨w0.heap.size,1,none⟩) hlo (.string ⟨#[]⟩)).setCell (p:=⟨w0.heap.size,2,none⟩) hlo (.string ⟨#[]⟩)).drew
 clear h hS h0 h1 hN0 hN1 hB1 hb0 hb1 iV
 by_cases hneg:num<0
 ·go_enter func86,ntmps86
  go_wp2_with fail
  go_region
  all_goals
   go_wp2_with fail
   (try simp only[Exit.inBlock,Exit.then])
   refine⟨rfl,.tuple #[.agg #[.int .i64 0,.string ⟨#[]⟩,.string ⟨#[]⟩],.int .i64 15],?_,rfl,HB.out⟩
   rw[results_cell_tmp rfl]
   have:=HL.out
   simp[asAddr,this]
 ·have hge:(Bs.length:Int)≤num:=by omega
  have hdn:decide (num<0)=false:=by simp;omega
  have hdg:decide ((Bs.length:Int)≤num)=true:=by simp;omega
  clear hneg hno
  go_enter func86,ntmps86
  go_wp2_with fail
  go_region
  all_goals
   go_wp2_with fail
   (try simp only[Exit.inBlock,Exit.then])
   refine⟨rfl,.tuple #[.agg #[.int .i64 0,.string ⟨#[]⟩,.string ⟨#[]⟩],.int .i64 15],?_,rfl,HB.out⟩
   rw[results_cell_tmp rfl]
   have:=HL.out
   simp[asAddr,this]
theorem NM (w:World) (b:Nat) (i0 i1 i2 i3:Value) (last:Int) (had up:Bool) (token:Nat) (silence:Int) (asked:Value) (next:Nat) (streams:Value) (made:Nat) (calls:Value) (L:List gG) (q m lo:Nat) (Bs:List Nat)
  (h:aW w b 80 i0 i1 i2 i3 last had up (jV token silence asked next streams made calls Bs.length) L q m) (hS:xW w lo calls Bs) (hl:Bs.length≤8) (k:Nat) (hk:k<Bs.length) :
  Calls Tryz.prog 86 #[.pointer (some ⟨b,0,none⟩),.int .i64 (k:Nat)] w (fun e w'=>e=.returned (.tuple #[.agg #[.int .i64 0,.string ⟨#[]⟩,.string ⟨#[]⟩],(.int .i64 0)])∧Below w.heap.size w w'):=by
 have hb0:Below w.heap.size w (w.alloc (.cells #[.int .i64 (k:Nat)] 3)):=(Below.refl _ _).alloc (Nat.le_refl _) _
 have hN0:aU (w.alloc (.cells #[.int .i64 (k:Nat)] 3)) w.heap.size 3 [.int .i64 (k:Nat)]:=heap_alloc_new w _
 have h0:=h.below hb0
 obtain⟨w0,hw0⟩:∃ w0,w.alloc (.cells #[.int .i64 (k:Nat)] 3)=w0:=⟨_,rfl⟩
 rw[hw0] at hb0 hN0 h0
 have hb1:Below w0.heap.size w0 (w0.alloc (.cells #[.int .i64 0,.string ⟨#[]⟩,.string ⟨#[]⟩] 123)):=(Below.refl _ _).alloc (Nat.le_refl _) _
 have hB1:aU (w0.alloc (.cells #[.int .i64 0,.string ⟨#[]⟩,.string ⟨#[]⟩] 123)) w0.heap.size 123 [.int .i64 0,.string ⟨#[]⟩,.string ⟨#[]⟩]:=heap_alloc_new w0 _
 have h1:=h0.below hb1
 have hN1:=hN0.below hb1
 obtain⟨w1,hw1⟩:∃ w1,w0.alloc (.cells #[.int .i64 0,.string ⟨#[]⟩,.string ⟨#[]⟩] 123)=w1:=⟨_,rfl⟩
 rw[hw1] at hb1 hB1 h1 hN1
 have dn:w1.cell? ⟨w.heap.size,0,none⟩=some (.int .i64 (k:Nat)):=hN1.cell 0
 have dm:w1.cell? ⟨b,18,none⟩=some (.int .i64 (Bs.length:Nat)):=h1.blk.cell 18
 have e0:w1.cell? ⟨w0.heap.size,0,none⟩=some (.int .i64 0):=hB1.cell 0
 have e1:w1.cell? ⟨w0.heap.size,1,none⟩=some (.string ⟨#[]⟩):=hB1.cell 1
 have e2:w1.cell? ⟨w0.heap.size,2,none⟩=some (.string ⟨#[]⟩):=hB1.cell 2
 have g0:=hB1.frozen 0
 have g1:=hB1.frozen 1
 have g2:=hB1.frozen 2
 have iV:Below w.heap.size w w1:=hb0.trans (hb1.mono hb0.size)
 have hlo:=hb0.size
 have HL:=hid (jD _ _ _ _ _ (show aU (((w1.setCell ⟨w0.heap.size,0,none⟩ (.int .i64 0)).setCell ⟨w0.heap.size,1,none⟩ (.string ⟨#[]⟩)).setCell ⟨w0.heap.size,2,none⟩ (.string ⟨#[]⟩)).drew w0.heap.size 123 [.int .i64 0,.string ⟨#[]⟩,.string ⟨#[]⟩] from((hB1.set 0 _).set 1 _).set 2 _))
 have HB:=hid (((iV.setCell (p:=⟨w0.heap.size,0,none⟩) hlo (.int .i64 0)).setCell (p:=⟨w0.heap.size,1,none⟩) hlo (.string ⟨#[]⟩)).setCell (p:=⟨w0.heap.size,2,none⟩) hlo (.string ⟨#[]⟩)).drew
 have hS1:=hS.below iV
 have dS:w1.cell? ⟨b,17,none⟩=some calls:=h1.blk.cell 17
 have HC:Hid (∀ wr,Below w1.drew.heap.size w1.drew wr→∀ i (hi:i<Bs.length),Calls Tryz.prog 129 #[jr Bs[i],.pointer (some ⟨w.heap.size,0,none⟩)] wr (fun e w'=>e=.returned (.bool ((i:Int)==k))∧Below wr.heap.size wr w')):=fun wr hwr i hi=>by
  obtain⟨xs,hx,hx0,_⟩:=hS1.each i hi
  exact xU Bs[i] xs i k w.heap.size wr (aU.below (w:=w1.drew) hx hwr) hx0 ((aU.below (w:=w1.drew) hN1 hwr).cell 0)
 have Il:=hid hS1
 have HB1:=hid hB1
 have H1:=hid h1
 have JZ:=hid iV
 have hdn:decide ((k:Int)<0)=false:=by simp
 have hdg:decide ((Bs.length:Int)≤(k:Int))=false:=by simp;omega
 obtain⟨sa,sc,hsv⟩:=hS1.row.slice
 subst hsv
 clear h hS h0 h1 hN0 hN1 hB1 hb0 hb1 iV hS1 HL HB
 go_enter func86,ntmps86
 go_wp2_with fail
 go_region
 all_goals
  go_wp2_with fail
  refine(UD w1.drew lo _ Bs w.heap.size (fun i=>((i:Int)==k)) (show rJ w1.drew lo _ _ Bs from Il.out.row) (by omega) HC.out).mono ?_;rintro e w2 ⟨z,rfl,hz,hb2⟩
  have hzk:z=(k:Int):=by
   rcases hz with⟨k',hk',hf,_,rfl⟩ | ⟨hall,_⟩
   ·simpa using hf
   ·have:=hall k hk
    simp at this
  subst hzk
  have fC:Below w1.heap.size w1 w2:=⟨hb2.os,hb2.tape,hb2.output,hb2.size,hb2.block⟩
  have HS2:=hid (Il.out.below fC)
  have H2:=hid (H1.out.below fC)
  have HB2:=hid (HB1.out.below fC)
  have dS2:w2.cell? ⟨b,17,none⟩=some (.slice sa Bs.length sc):=H2.out.blk.cell 17
  obtain⟨g,cap,hv,hgl,hgs,hcell⟩:=HS2.out.row.cell (by omega)
  obtain⟨rfl,rfl⟩:sa=some ⟨g,0,none⟩∧sc=cap:=by simpa using hv
  have hck:w2.cell? ⟨g,k,none⟩=some (.pointer (some ⟨Bs[k],0,none⟩)):=hcell k hk
  have hkI:(k:Int)<(Bs.length:Int):=by omega
  have hzA:=JZ.out.size
  have aeD:=fC.size
  have hl1:=HB1.out.lt
  clear hcell hv hz dS
  obtain⟨xs,hx,_,hx3,hx4,hx5⟩:=HS2.out.each k hk
  have m3:w2.cell? ⟨Bs[k],3,none⟩=some (.int .i64 0):=(hx.cell 3).trans hx3
  have m4:w2.cell? ⟨Bs[k],4,none⟩=some (.string ⟨#[]⟩):=(hx.cell 4).trans hx4
  have m5:w2.cell? ⟨Bs[k],5,none⟩=some (.string ⟨#[]⟩):=(hx.cell 5).trans hx5
  have hb4:Below w2.heap.size w2 (w2.alloc (.cells #[.int .i64 0,.string ⟨#[]⟩,.string ⟨#[]⟩] 123)):=(Below.refl _ _).alloc (Nat.le_refl _) _
  have ZT:aU (w2.alloc (.cells #[.int .i64 0,.string ⟨#[]⟩,.string ⟨#[]⟩] 123)) w2.heap.size 123 [.int .i64 0,.string ⟨#[]⟩,.string ⟨#[]⟩]:=heap_alloc_new w2 _
  have hB4:=HB2.out.below hb4
  have p0:(w2.alloc (.cells #[.int .i64 0,.string ⟨#[]⟩,.string ⟨#[]⟩] 123)).cell? ⟨w0.heap.size,0,none⟩=some (.int .i64 0):=hB4.cell 0
  have p1:(w2.alloc (.cells #[.int .i64 0,.string ⟨#[]⟩,.string ⟨#[]⟩] 123)).cell? ⟨w0.heap.size,1,none⟩=some (.string ⟨#[]⟩):=hB4.cell 1
  have p2:(w2.alloc (.cells #[.int .i64 0,.string ⟨#[]⟩,.string ⟨#[]⟩] 123)).cell? ⟨w0.heap.size,2,none⟩=some (.string ⟨#[]⟩):=hB4.cell 2
  have r0:=hB4.frozen 0
  have r1:=hB4.frozen 1
  have r2:=hB4.frozen 2
  have hbB:Below w.heap.size w (w2.alloc (.cells #[.int .i64 0,.string ⟨#[]⟩,.string ⟨#[]⟩] 123)):=JZ.out.trans ((fC.mono (by omega)).trans (hb4.mono (by omega)))
  have HL:=hid (jD _ _ _ _ _ (show aU ((((w2.alloc (.cells #[.int .i64 0,.string ⟨#[]⟩,.string ⟨#[]⟩] 123)).setCell ⟨w0.heap.size,0,none⟩ (.int .i64 0)).setCell ⟨w0.heap.size,1,none⟩ (.string ⟨#[]⟩)).setCell ⟨w0.heap.size,2,none⟩ (.string ⟨#[]⟩)) w0.heap.size 123 [.int .i64 0,.string ⟨#[]⟩,.string ⟨#[]⟩] from((hB4.set 0 _).set 1 _).set 2 _))
  have HB:=hid (((hbB.setCell (p:=⟨w0.heap.size,0,none⟩) hlo (.int .i64 0)).setCell (p:=⟨w0.heap.size,1,none⟩) hlo (.string ⟨#[]⟩)).setCell (p:=⟨w0.heap.size,2,none⟩) hlo (.string ⟨#[]⟩))
  clear hx hx3 hx4 hx5 ZT hB4
  go_wp2_with fail
  (try simp only[Exit.inBlock,Exit.then])
  refine⟨rfl,.tuple #[.agg #[.int .i64 0,.string ⟨#[]⟩,.string ⟨#[]⟩],.int .i64 0],?_,rfl,HB.out⟩
  rw[results_cell_tmp rfl]
  have:=HL.out
  simp[asAddr,this]
structure qJ (w:World) (lo:Nat) (v:Value) (Bs:List Nat):Prop where
 row:rJ w lo 166 v Bs
 each:∀ i (hi:i<Bs.length),∃ xs,aU w Bs[i] 203 xs∧xs[0]? = some (.int .i64 i)∧xs[13]? = some (.slice none 0 0)∧xs[14]? = some (.int .i64 0)
theorem qJ.below {w w':World} {lo:Nat} {v:Value} {Bs:List Nat} (h:qJ w lo v Bs) (hb:Below w.heap.size w w'):qJ w' lo v Bs:=⟨h.row.below hb,fun i hi=>by
 obtain⟨xs,h1,h2⟩:=h.each i hi
 exact⟨xs,h1.below hb,h2⟩⟩
theorem X4 (w:World) (b:Nat) (i0 i1 i2 i3:Value) (last:Int) (had up:Bool) (token:Nat) (silence:Int) (asked:Value) (next:Nat) (streams:Value) (calls:Value) (called:Nat) (L:List gG) (q m lo:Nat) (Bs:List Nat)
  (h:aW w b 80 i0 i1 i2 i3 last had up (jV token silence asked next streams Bs.length calls called) L q m) (hS:qJ w lo streams Bs) (hl:Bs.length≤8) (num:Int) (hno:¬ (0≤num∧num<Bs.length)) :
  Calls Tryz.prog 84 #[.pointer (some ⟨b,0,none⟩),.int .i64 num] w (fun e w'=>e=.returned (.tuple #[.agg #[.int .i64 0,.string ⟨#[]⟩,.string ⟨#[]⟩],.int .i64 15])∧Below w.heap.size w w'):=by
 have hb0:Below w.heap.size w (w.alloc (.cells #[.int .i64 num] 3)):=(Below.refl _ _).alloc (Nat.le_refl _) _
 have hN0:aU (w.alloc (.cells #[.int .i64 num] 3)) w.heap.size 3 [.int .i64 num]:=heap_alloc_new w _
 have h0:=h.below hb0
 obtain⟨w0,hw0⟩:∃ w0,w.alloc (.cells #[.int .i64 num] 3)=w0:=⟨_,rfl⟩
 rw[hw0] at hb0 hN0 h0
 have hb1:Below w0.heap.size w0 (w0.alloc (.cells #[.int .i64 0,.string ⟨#[]⟩,.string ⟨#[]⟩] 123)):=(Below.refl _ _).alloc (Nat.le_refl _) _
 have hB1:aU (w0.alloc (.cells #[.int .i64 0,.string ⟨#[]⟩,.string ⟨#[]⟩] 123)) w0.heap.size 123 [.int .i64 0,.string ⟨#[]⟩,.string ⟨#[]⟩]:=heap_alloc_new w0 _
 have h1:=h0.below hb1
 have hN1:=hN0.below hb1
 obtain⟨w1,hw1⟩:∃ w1,w0.alloc (.cells #[.int .i64 0,.string ⟨#[]⟩,.string ⟨#[]⟩] 123)=w1:=⟨_,rfl⟩
 rw[hw1] at hb1 hB1 h1 hN1
 have dn:w1.cell? ⟨w.heap.size,0,none⟩=some (.int .i64 num):=hN1.cell 0
 have dm:w1.cell? ⟨b,16,none⟩=some (.int .i64 (Bs.length:Nat)):=h1.blk.cell 16
 have e0:w1.cell? ⟨w0.heap.size,0,none⟩=some (.int .i64 0):=hB1.cell 0
 have e1:w1.cell? ⟨w0.heap.size,1,none⟩=some (.string ⟨#[]⟩):=hB1.cell 1
 have e2:w1.cell? ⟨w0.heap.size,2,none⟩=some (.string ⟨#[]⟩):=hB1.cell 2
 have g0:=hB1.frozen 0
 have g1:=hB1.frozen 1
 have g2:=hB1.frozen 2
 have iV:Below w.heap.size w w1:=hb0.trans (hb1.mono hb0.size)
 have hlo:=hb0.size
 have HL:=hid (jD _ _ _ _ _ (show aU (((w1.setCell ⟨w0.heap.size,0,none⟩ (.int .i64 0)).setCell ⟨w0.heap.size,1,none⟩ (.string ⟨#[]⟩)).setCell ⟨w0.heap.size,2,none⟩ (.string ⟨#[]⟩)).drew w0.heap.size 123 [.int .i64 0,.string ⟨#[]⟩,.string ⟨#[]⟩] from((hB1.set 0 _).set 1 _).set 2 _))
 have HB:=hid (((iV.setCell (p:=⟨w0.heap.size,0,none⟩) hlo (.int .i64 0)).setCell (p:=⟨w0.heap.size,1,none⟩) hlo (.string ⟨#[]⟩)).setCell (p:=⟨w0.heap.size,2,none⟩) hlo (.string ⟨#[]⟩)).drew
 clear h hS h0 h1 hN0 hN1 hB1 hb0 hb1 iV
 by_cases hneg:num<0
 ·go_enter func84,ntmps84
  go_wp2_with fail
  go_region
  all_goals
   go_wp2_with fail
   (try simp only[Exit.inBlock,Exit.then])
   refine⟨rfl,.tuple #[.agg #[.int .i64 0,.string ⟨#[]⟩,.string ⟨#[]⟩],.int .i64 15],?_,rfl,HB.out⟩
   rw[results_cell_tmp rfl]
   have:=HL.out
   simp[asAddr,this]
 ·have hge:(Bs.length:Int)≤num:=by omega
  have hdn:decide (num<0)=false:=by simp;omega
  have hdg:decide ((Bs.length:Int)≤num)=true:=by simp;omega
  clear hneg hno
  go_enter func84,ntmps84
  go_wp2_with fail
  go_region
  all_goals
   go_wp2_with fail
   (try simp only[Exit.inBlock,Exit.then])
   refine⟨rfl,.tuple #[.agg #[.int .i64 0,.string ⟨#[]⟩,.string ⟨#[]⟩],.int .i64 15],?_,rfl,HB.out⟩
   rw[results_cell_tmp rfl]
   have:=HL.out
   simp[asAddr,this]
theorem UE (w:World) (b:Nat) (i0 i1 i2 i3:Value) (last:Int) (had up:Bool) (token:Nat) (silence:Int) (asked:Value) (next:Nat) (streams:Value) (calls:Value) (called:Nat) (L:List gG) (q m lo:Nat) (Bs:List Nat)
  (h:aW w b 80 i0 i1 i2 i3 last had up (jV token silence asked next streams Bs.length calls called) L q m) (hS:qJ w lo streams Bs) (hl:Bs.length≤8) (k:Nat) (hk:k<Bs.length) :
  Calls Tryz.prog 84 #[.pointer (some ⟨b,0,none⟩),.int .i64 (k:Nat)] w (fun e w'=>e=.returned (.tuple #[.agg #[.int .i64 0,.string ⟨#[]⟩,.string ⟨#[]⟩],(.int .i64 0)])∧Below w.heap.size w w'):=by
 have hb0:Below w.heap.size w (w.alloc (.cells #[.int .i64 (k:Nat)] 3)):=(Below.refl _ _).alloc (Nat.le_refl _) _
 have hN0:aU (w.alloc (.cells #[.int .i64 (k:Nat)] 3)) w.heap.size 3 [.int .i64 (k:Nat)]:=heap_alloc_new w _
 have h0:=h.below hb0
 obtain⟨w0,hw0⟩:∃ w0,w.alloc (.cells #[.int .i64 (k:Nat)] 3)=w0:=⟨_,rfl⟩
 rw[hw0] at hb0 hN0 h0
 have hb1:Below w0.heap.size w0 (w0.alloc (.cells #[.int .i64 0,.string ⟨#[]⟩,.string ⟨#[]⟩] 123)):=(Below.refl _ _).alloc (Nat.le_refl _) _
 have hB1:aU (w0.alloc (.cells #[.int .i64 0,.string ⟨#[]⟩,.string ⟨#[]⟩] 123)) w0.heap.size 123 [.int .i64 0,.string ⟨#[]⟩,.string ⟨#[]⟩]:=heap_alloc_new w0 _
 have h1:=h0.below hb1
 have hN1:=hN0.below hb1
 obtain⟨w1,hw1⟩:∃ w1,w0.alloc (.cells #[.int .i64 0,.string ⟨#[]⟩,.string ⟨#[]⟩] 123)=w1:=⟨_,rfl⟩
 rw[hw1] at hb1 hB1 h1 hN1
 have dn:w1.cell? ⟨w.heap.size,0,none⟩=some (.int .i64 (k:Nat)):=hN1.cell 0
 have dm:w1.cell? ⟨b,16,none⟩=some (.int .i64 (Bs.length:Nat)):=h1.blk.cell 16
 have e0:w1.cell? ⟨w0.heap.size,0,none⟩=some (.int .i64 0):=hB1.cell 0
 have e1:w1.cell? ⟨w0.heap.size,1,none⟩=some (.string ⟨#[]⟩):=hB1.cell 1
 have e2:w1.cell? ⟨w0.heap.size,2,none⟩=some (.string ⟨#[]⟩):=hB1.cell 2
 have g0:=hB1.frozen 0
 have g1:=hB1.frozen 1
 have g2:=hB1.frozen 2
 have iV:Below w.heap.size w w1:=hb0.trans (hb1.mono hb0.size)
 have hlo:=hb0.size
 have HL:=hid (jD _ _ _ _ _ (show aU (((w1.setCell ⟨w0.heap.size,0,none⟩ (.int .i64 0)).setCell ⟨w0.heap.size,1,none⟩ (.string ⟨#[]⟩)).setCell ⟨w0.heap.size,2,none⟩ (.string ⟨#[]⟩)).drew w0.heap.size 123 [.int .i64 0,.string ⟨#[]⟩,.string ⟨#[]⟩] from((hB1.set 0 _).set 1 _).set 2 _))
 have HB:=hid (((iV.setCell (p:=⟨w0.heap.size,0,none⟩) hlo (.int .i64 0)).setCell (p:=⟨w0.heap.size,1,none⟩) hlo (.string ⟨#[]⟩)).setCell (p:=⟨w0.heap.size,2,none⟩) hlo (.string ⟨#[]⟩)).drew
 have hS1:=hS.below iV
 have dS:w1.cell? ⟨b,15,none⟩=some streams:=h1.blk.cell 15
 have HC:Hid (∀ wr,Below w1.drew.heap.size w1.drew wr→∀ i (hi:i<Bs.length),Calls Tryz.prog 125 #[jr Bs[i],.pointer (some ⟨w.heap.size,0,none⟩)] wr (fun e w'=>e=.returned (.bool ((i:Int)==k))∧Below wr.heap.size wr w')):=fun wr hwr i hi=>by
  obtain⟨xs,hx,hx0,_⟩:=hS1.each i hi
  exact Bh Bs[i] xs i k w.heap.size wr (aU.below (w:=w1.drew) hx hwr) hx0 ((aU.below (w:=w1.drew) hN1 hwr).cell 0)
 have Il:=hid hS1
 have HB1:=hid hB1
 have H1:=hid h1
 have JZ:=hid iV
 have hdn:decide ((k:Int)<0)=false:=by simp
 have hdg:decide ((Bs.length:Int)≤(k:Int))=false:=by simp;omega
 obtain⟨sa,sc,hsv⟩:=hS1.row.slice
 subst hsv
 clear h hS h0 h1 hN0 hN1 hB1 hb0 hb1 iV hS1 HL HB
 go_enter func84,ntmps84
 go_wp2_with fail
 go_region
 all_goals
  go_wp2_with fail
  refine(NJ w1.drew lo _ Bs w.heap.size (fun i=>((i:Int)==k)) (show rJ w1.drew lo _ _ Bs from Il.out.row) (by omega) HC.out).mono ?_;rintro e w2 ⟨z,rfl,hz,hb2⟩
  have hzk:z=(k:Int):=by
   rcases hz with⟨k',hk',hf,_,rfl⟩ | ⟨hall,_⟩
   ·simpa using hf
   ·have:=hall k hk
    simp at this
  subst hzk
  have fC:Below w1.heap.size w1 w2:=⟨hb2.os,hb2.tape,hb2.output,hb2.size,hb2.block⟩
  have HS2:=hid (Il.out.below fC)
  have H2:=hid (H1.out.below fC)
  have HB2:=hid (HB1.out.below fC)
  have dS2:w2.cell? ⟨b,15,none⟩=some (.slice sa Bs.length sc):=H2.out.blk.cell 15
  obtain⟨g,cap,hv,hgl,hgs,hcell⟩:=HS2.out.row.cell (by omega)
  obtain⟨rfl,rfl⟩:sa=some ⟨g,0,none⟩∧sc=cap:=by simpa using hv
  have hck:w2.cell? ⟨g,k,none⟩=some (.pointer (some ⟨Bs[k],0,none⟩)):=hcell k hk
  have hkI:(k:Int)<(Bs.length:Int):=by omega
  have hzA:=JZ.out.size
  have aeD:=fC.size
  have hl1:=HB1.out.lt
  clear hcell hv hz dS
  go_wp2_with fail
  obtain⟨xs,hx,_,ab3,ab4⟩:=HS2.out.each k hk
  refine(NK w2 Bs[k] xs hx ab3 ab4).mono ?_;rintro e w3 ⟨rfl,hb3⟩
  have hb4:Below w3.heap.size w3 (w3.alloc (.cells #[.int .i64 0,.string ⟨#[]⟩,.string ⟨#[]⟩] 123)):=(Below.refl _ _).alloc (Nat.le_refl _) _
  have ZT:aU (w3.alloc (.cells #[.int .i64 0,.string ⟨#[]⟩,.string ⟨#[]⟩] 123)) w3.heap.size 123 [.int .i64 0,.string ⟨#[]⟩,.string ⟨#[]⟩]:=heap_alloc_new w3 _
  have hB4:=(HB2.out.below hb3).below hb4
  have p0:(w3.alloc (.cells #[.int .i64 0,.string ⟨#[]⟩,.string ⟨#[]⟩] 123)).cell? ⟨w0.heap.size,0,none⟩=some (.int .i64 0):=hB4.cell 0
  have p1:(w3.alloc (.cells #[.int .i64 0,.string ⟨#[]⟩,.string ⟨#[]⟩] 123)).cell? ⟨w0.heap.size,1,none⟩=some (.string ⟨#[]⟩):=hB4.cell 1
  have p2:(w3.alloc (.cells #[.int .i64 0,.string ⟨#[]⟩,.string ⟨#[]⟩] 123)).cell? ⟨w0.heap.size,2,none⟩=some (.string ⟨#[]⟩):=hB4.cell 2
  have r0:=hB4.frozen 0
  have r1:=hB4.frozen 1
  have r2:=hB4.frozen 2
  have hbB:Below w.heap.size w (w3.alloc (.cells #[.int .i64 0,.string ⟨#[]⟩,.string ⟨#[]⟩] 123)):=JZ.out.trans ((fC.mono (by omega)).trans ((hb3.mono (by omega)).trans (hb4.mono (by have:=hb3.size;omega))))
  have HL:=hid (jD _ _ _ _ _ (show aU ((((w3.alloc (.cells #[.int .i64 0,.string ⟨#[]⟩,.string ⟨#[]⟩] 123)).setCell ⟨w0.heap.size,0,none⟩ (.int .i64 0)).setCell ⟨w0.heap.size,1,none⟩ (.string ⟨#[]⟩)).setCell ⟨w0.heap.size,2,none⟩ (.string ⟨#[]⟩)) w0.heap.size 123 [.int .i64 0,.string ⟨#[]⟩,.string ⟨#[]⟩] from((hB4.set 0 _).set 1 _).set 2 _))
  have HB:=hid (((hbB.setCell (p:=⟨w0.heap.size,0,none⟩) hlo (.int .i64 0)).setCell (p:=⟨w0.heap.size,1,none⟩) hlo (.string ⟨#[]⟩)).setCell (p:=⟨w0.heap.size,2,none⟩) hlo (.string ⟨#[]⟩))
  clear hx ab3 ab4 ZT hB4 hck dS2
  go_wp2_with fail
  (try simp only[Exit.inBlock,Exit.then])
  refine⟨rfl,.tuple #[.agg #[.int .i64 0,.string ⟨#[]⟩,.string ⟨#[]⟩],.int .i64 0],?_,rfl,HB.out⟩
  rw[results_cell_tmp rfl]
  have:=HL.out
  simp[asAddr,this]
structure dU where
 blk:Nat
 name:ByteArray
 base:ByteArray
 count:Nat
 kept:Value
 kv:List Value
 fin:Bool
abbrev uD (t:dU):List Value:=[.string t.name,.string t.base,.int .u64 t.count,t.kept,.bool t.fin]
structure iD (w:World) (lo:Nat) (v:Value) (Ts:List dU):Prop where
 row:rJ w lo 136 v (Ts.map (fun t=>t.blk))
 each:∀ t∈Ts,aU w t.blk 138 (uD t)
 nodup:(Ts.map (fun t=>t.blk)).Nodup
 kept:∀ t∈Ts,w.ownsRow lo 97 1 t.kept t.kv.length t.kv∧t.kv.length≤16∧∀ u∈t.kv,u.oneCell'=true
 apart:∀ (i j:Nat) (x y:dU),Ts[i]? = some x→Ts[j]? = some y→i≠j→∀ g,x.kept.ownBlock=some g→y.kept.ownBlock≠some g
theorem iD.below {w w':World} {lo:Nat} {v:Value} {Ts:List dU} (h:iD w lo v Ts) (hb:Below w.heap.size w w'):iD w' lo v Ts:=⟨h.row.below hb,fun t ht=>(h.each t ht).below hb,h.nodup,fun t ht=>⟨au (h.kept t ht).1 (fun g hg=>hb.block g ((h.kept t ht).1.lt g hg).2),(h.kept t ht).2⟩,h.apart⟩
theorem CG (t:dU) (name:ByteArray) (cb:Nat) (w:World) (hB:aU w t.blk 138 (uD t)) (hc:w.cell? ⟨cb,0,none⟩=some (.string name)) :
  Calls Tryz.prog 220 #[jr t.blk,.pointer (some ⟨cb,0,none⟩)] w (fun e w'=>e=.returned (.bool (t.name.toList==name.toList))∧Below w.heap.size w w'):=by
 unfold jr
 have d0:w.cell? ⟨t.blk,0,none⟩=some (.string t.name):=hB.cell 0
 clear hB
 go_enter func220,ntmps220
 go_wp2_with fail
 go_region
 all_goals
  go_wp2_with fail
  go_ret
  exact⟨rfl,(Below.refl _ _).drew⟩
def J3 (Ts:List dU) (name:ByteArray) (i:Nat):Bool:=match Ts[i]? with
 | some t=>t.name.toList==name.toList
 | none=>false
theorem Q7 (w:World) (b:Nat) (i0 i1 i2 i3:Value) (last:Int) (had up:Bool) (aI:Value) (ms mo:Nat) (L:List gG) (q m lo:Nat) (Ts:List dU)
  (h:aW w b 75 i0 i1 i2 i3 last had up (nT aI ms mo) L q m) (ht:iD w lo aI Ts) (hl:Ts.length≤400) (name:ByteArray) :
  Calls Tryz.prog 168 #[.pointer (some ⟨b,0,none⟩),.string name] w (fun e w'=>Below w.heap.size w w'∧((∃ (k:Nat) (t:dU),Ts[k]? = some t∧t.name.toList=name.toList∧e=.returned (jr t.blk))∨((∀ t∈Ts,t.name.toList≠name.toList)∧e=.returned (.pointer none)))):=by
 have hb0:Below w.heap.size w (w.alloc (.cells #[.string name] 9)):=(Below.refl _ _).alloc (Nat.le_refl _) _
 have hB0:aU (w.alloc (.cells #[.string name] 9)) w.heap.size 9 [.string name]:=heap_alloc_new w _
 have h0:=h.below hb0
 have ht0:=ht.below hb0
 obtain⟨w0,hw0⟩:∃ w0,w.alloc (.cells #[.string name] 9)=w0:=⟨_,rfl⟩
 rw[hw0] at hb0 hB0 h0 ht0
 have d9:w0.cell? ⟨b,9,none⟩=some aI:=h0.blk.cell 9
 obtain⟨Bs,HBs⟩:∃ Bs,Hid (Ts.map (fun t=>t.blk)=Bs):=⟨_,hid rfl⟩
 have HLen:=hid (show Bs.length=Ts.length by rw[← HBs.out];simp)
 have HAt:Hid (∀ i (hi:i<Bs.length) (hi':i<Ts.length),Bs[i]=Ts[i].blk):=fun i hi hi'=>by
  have:=HBs.out
  subst this
  simp
 have HR:=hid ht0.row
 rw[HBs.out] at HR
 have HC:Hid (∀ wr,Below w0.heap.size w0 wr→∀ i (hi:i<Bs.length),Calls Tryz.prog 220 #[jr Bs[i],.pointer (some ⟨w.heap.size,0,none⟩)] wr (fun e w'=>e=.returned (.bool (J3 Ts name i))∧Below wr.heap.size wr w')):=fun wr hwr i hi=>by
  have hi':i<Ts.length:=by have:=HLen.out;omega
  have e2:J3 Ts name i=(Ts[i].name.toList==name.toList):=by unfold J3;rw[List.getElem?_eq_getElem hi']
  rw[HAt.out i hi hi',e2]
  exact CG Ts[i] name w.heap.size wr ((ht0.each _ (List.getElem_mem hi')).below hwr) ((hB0.below hwr).cell 0)
 obtain⟨la,lc,hv⟩:=HR.out.slice
 have H0:=hid h0
 have ZU:Hid ((∀ j,j<Bs.length→J3 Ts name j=false)→∀ t∈Ts,t.name.toList≠name.toList):=fun hno t ht e=>by
  obtain⟨j,hj,rfl⟩:=List.getElem_of_mem ht
  have:=hno j (by have:=HLen.out;omega)
  unfold J3 at this
  rw[List.getElem?_eq_getElem hj] at this
  simp[e] at this
 have NP:Hid (∀ k,k<Bs.length→J3 Ts name k=true→∃ t:dU,Ts[k]? = some t∧t.name.toList=name.toList∧∀ hk:k<Bs.length,Bs[k]=t.blk):=fun k hk hf=>by
  have hk':k<Ts.length:=by have:=HLen.out;omega
  refine⟨Ts[k],List.getElem?_eq_getElem hk',?_,fun hk=>HAt.out k hk hk'⟩
  unfold J3 at hf
  rw[List.getElem?_eq_getElem hk'] at hf
  simpa using hf
 have hlB:Bs.length≤400:=by have:=HLen.out;omega
 subst hv
 clear h ht h0 ht0 hB0 hl HAt
 go_enter func168,ntmps168
 go_wp2_with fail
 refine(QZ w0 lo _ Bs w.heap.size (J3 Ts name) HR.out hlB HC.out).mono ?_;rintro e w1 ⟨z,rfl,hz,hb1⟩
 have iV:Below w.heap.size w w1:=hb0.trans (hb1.mono hb0.size)
 have H1:=hid (H0.out.below hb1)
 have HR1:=hid (HR.out.below hb1)
 rcases hz with⟨k,hk,hf,_,rfl⟩ | ⟨hno,rfl⟩
 ·obtain⟨t,htk,hnm,hbk⟩:=NP.out k hk hf
  obtain⟨g,cap,hv,hlo,hgs,hcell⟩:=HR1.out.cell (by omega)
  obtain⟨rfl,rfl⟩:la=some ⟨g,0,none⟩∧lc=cap:=by simpa using hv
  have hck:w1.cell? ⟨g,k,none⟩=some (.pointer (some ⟨t.blk,0,none⟩)):=by
   have:=hcell k hk
   rw[hbk hk] at this
   exact this
  have e9:w1.cell? ⟨b,9,none⟩=some (.slice (some ⟨g,0,none⟩) Bs.length lc):=H1.out.blk.cell 9
  have HF:=hid hnm
  have HK:=hid htk
  have hkI:(k:Int)<(Bs.length:Int):=by omega
  clear hcell hv hf d9 hbk hnm htk
  go_wp2_with fail
  go_ret
  exact⟨iV,Or.inl ⟨k,t,HK.out,HF.out,rfl⟩⟩
 ·have HN:=hid (ZU.out hno)
  clear hno
  go_wp2_with fail
  go_ret
  exact⟨iV,Or.inr ⟨HN.out,rfl⟩⟩
theorem ab5:(136:TypeId) ≠ 138:=by decide
theorem ab6:(136:TypeId) ≠ 97:=by decide
theorem UF:(138:TypeId) ≠ 97:=by decide
theorem aU.mQ {w:World} {b lo n size:Nat} {T e:TypeId} {xs ys:List Value} {v:Value} (h:aU w b T xs) (k:w.ownsRow lo e size v n ys) (hne:e≠T):v.ownBlock≠some b:=fun hv=>by
 obtain⟨cur,hc⟩:=jZ k hv
 have h':w.heap[b]? = _:=h
 rw[hc] at h'
 simp only[Option.some.injEq,Obj.cells.injEq] at h'
 exact hne h'.2.1
theorem aU.Ij {w:World} {b c:Nat} {T S:TypeId} {xs ys:List Value} (h:aU w b T xs) (k:aU w c S ys) (hne:S≠T):b≠c:=fun e=>by
 have h':w.heap[b]? = _:=h
 have k':w.heap[c]? = _:=k
 rw[e,k'] at h'
 simp only[Option.some.injEq,Obj.cells.injEq] at h'
 exact hne h'.2.1
def BH (v:Value) (Ts:List dU) (k:Nat):Prop:=v.ownBlock=some k∨∃ t∈Ts,t.blk=k∨t.kept.ownBlock=some k
theorem iD.lt {w:World} {lo:Nat} {v:Value} {Ts:List dU} (h:iD w lo v Ts) {k:Nat} (hk:BH v Ts k):k<w.heap.size:=by
 rcases hk with hk | ⟨t,ht,rfl | hk⟩
 ·exact(World.ownsRow.lt h.row k hk).2
 ·exact(h.each t ht).lt
 ·exact((h.kept t ht).1.lt k hk).2
theorem iD.fZ {F:Nat→Prop} {w w':World} {lo:Nat} {v:Value} {Ts:List dU} (h:iD w lo v Ts) (hc:aN F w w') (hF:∀ k,BH v Ts k→¬ F k):iD w' lo v Ts :=
 ⟨hc.own h.row (fun g hg=>hF g (Or.inl hg)),fun t ht=>(h.each t ht).fZ hc (hF _ (Or.inr ⟨t,ht,Or.inl rfl⟩)),h.nodup,fun t ht=>⟨hc.own (h.kept t ht).1 (fun g hg=>hF g (Or.inr ⟨t,ht,Or.inr hg⟩)),(h.kept t ht).2⟩,h.apart⟩
theorem xX {α:Type} {l:List α} {i:Nat} {a x:α} (h:x∈l.set i a):x=a∨∃ j,j≠i∧l[j]? = some x:=by
 obtain⟨j,hj,rfl⟩:=List.getElem_of_mem h
 rw[List.length_set] at hj
 rw[List.getElem_set]
 split
 ·exact Or.inl rfl
 ·rename_i hne
  exact Or.inr ⟨j,fun e=>hne e.symm,List.getElem?_eq_getElem hj⟩
theorem zx {α:Type} {l:List α} {i j:Nat} {a x:α} (h:(l.set i a)[j]? = some x):(j=i∧x=a)∨(j≠i∧l[j]? = some x):=by
 rw[List.getElem?_set] at h
 split at h
 ·rename_i e
  split at h
  ·exact Or.inl ⟨e.symm,(Option.some.inj h).symm⟩
  ·cases h
 ·rename_i e
  exact Or.inr ⟨fun e'=>e e'.symm,h⟩
theorem iD.upd {F:Nat→Prop} {w w':World} {lo:Nat} {v:Value} {Ts:List dU} (h:iD w lo v Ts) {i:Nat} {t t':dU} (hi:Ts[i]? = some t) (hb:t'.blk=t.blk) (hc:aN F w w') (hF:∀ k,F k→k=t.blk∨t.kept.ownBlock=some k)
  (hB:aU w' t.blk 138 (uD t')) (hk:w'.ownsRow lo 97 1 t'.kept t'.kv.length t'.kv∧t'.kv.length≤16∧∀ u∈t'.kv,u.oneCell'=true) (hnew:∀ g,t'.kept.ownBlock=some g→t.kept.ownBlock=some g∨w.heap.size≤g):iD w' lo v (Ts.set i t'):=by
 have CJ:=List.mem_of_getElem? hi
 have hil:i<Ts.length:=by
  rcases Nat.lt_or_ge i Ts.length with h' | h'
  ·exact h'
  ·rw[List.getElem?_eq_none h'] at hi;cases hi
 have hmap:(Ts.set i t').map (fun t=>t.blk)=Ts.map (fun t=>t.blk):=by
  rw[List.map_set,hb]
  have e:(Ts.map (fun t=>t.blk))[i]? = some t.blk:=by rw[List.getElem?_map,hi];rfl
  apply List.ext_getElem?
  intro j
  rw[List.getElem?_set]
  split
  ·rename_i e'
   subst e'
   rw[e,if_pos (by simpa using hil)]
  ·rfl
 have hblk:∀ j x,j≠i→Ts[j]? = some x→x.blk≠t.blk:=fun j x hji hx e=>by
  have h1:(Ts.map (fun t=>t.blk))[j]? = some t.blk:=by rw[List.getElem?_map,hx];simp[e]
  have h2:(Ts.map (fun t=>t.blk))[i]? = some t.blk:=by rw[List.getElem?_map,hi];rfl
  exact hji ((List.getElem?_inj (by
   rcases Nat.lt_or_ge j (Ts.map (fun t=>t.blk)).length with h' | h'
   ·exact h'
   ·rw[List.getElem?_eq_none h'] at h1;cases h1) h.nodup).1 (h1.trans h2.symm))
 refine⟨?_,fun x hx=>?_,by rw[hmap];exact h.nodup,fun x hx=>?_,fun a c x y ha hc' hac g hg hg'=>?_⟩
 ·rw[hmap]
  refine hc.own h.row (fun g hg hf=>?_)
  rcases hF g hf with rfl | hf
  ·exact(h.each t CJ).mQ h.row ab5 hg
  ·exact own_ne h.row (h.kept t CJ).1 ab6 hg hf rfl
 ·rcases xX hx with rfl | ⟨j,hji,hj⟩
  ·rw[hb];exact hB
  ·have hxm:=List.mem_of_getElem? hj
   refine(h.each x hxm).fZ hc (fun hf=>?_)
   rcases hF _ hf with e | hf
   ·exact hblk j x hji hj e
   ·exact(h.each x hxm).mQ (h.kept t CJ).1 UF.symm hf
 ·rcases xX hx with rfl | ⟨j,hji,hj⟩
  ·exact hk
  ·have hxm:=List.mem_of_getElem? hj
   refine⟨hc.own (h.kept x hxm).1 (fun g hg hf=>?_),(h.kept x hxm).2⟩
   rcases hF g hf with rfl | hf
   ·exact(h.each t CJ).mQ (h.kept x hxm).1 UF.symm hg
   ·exact h.apart j i x t hj hi hji g hg hf
 ·rcases zx ha with⟨rfl,rfl⟩ | ⟨hai,ha2⟩
  ·rcases zx hc' with⟨rfl,rfl⟩ | ⟨hci,hc'⟩
   ·exact hac rfl
   ·rcases hnew g hg with hg | hg
    ·exact h.apart a c t y hi hc' hac g hg hg'
    ·have:=((h.kept y (List.mem_of_getElem? hc')).1.lt g hg').2
     omega
  ·rcases zx hc' with⟨rfl,rfl⟩ | ⟨hci,hc'⟩
   ·rcases hnew g hg' with hg' | hg'
    ·exact h.apart a c x t ha2 hi hac g hg hg'
    ·have:=((h.kept x (List.mem_of_getElem? ha2)).1.lt g hg).2
     omega
   ·exact h.apart a c x y ha2 hc' hac g hg hg'
theorem Q8 {w:World} {g i:Nat} {xs:List Value} (h:aU w g 97 xs) (hi:i<xs.length) (c:Nat) (ty:TypeId):(Builtin.clear_ #[103] ty #[.slice (some ⟨g,i,none⟩) 1 c]).run Tryz.prog w=.ok (.tuple #[]) (w.setCell ⟨g,i,none⟩ (.slice none 0 0)):=by
 have hu:w.cell? ⟨g,i,none⟩=some xs[i]:=(h.cell i).trans (List.getElem?_eq_getElem hi)
 have hfr:=h.frozen i
 have hzc:(Builtin.zeroCells #[.slice none 0 0] 1).toList=[.slice none 0 0]:=by simp[Builtin.zeroCells]
 simp[Builtin.clear_,run_underlying underlying103,go_sem,hzc,hu,hfr]
theorem Tryz.infoBytesK:(Tryz.prog.info? 97).map (fun i=>(i.zero,i.size,i.bytes))=some (some (.slice none 0 0),1,24):=by kernel_rfl
theorem mV {w:World} {lo g n c:Nat} {e:TypeId} {xs:List Value} (h:w.ownsRow lo e 1 (.slice (some ⟨g,0,none⟩) n c) n xs):n≤c∧c≤maxLen∧∃ cur,w.heap[g]? = some (.cells cur e (0,0))∧cur.size=c∧cur.toList.take n=xs∧lo≤g:=by
 rcases h.2 with⟨e,_⟩ | ⟨g',cap,cur,hv,h1,h2,h3,h4,h5,h6⟩
 ·cases e
 ·simp only[Value.slice.injEq,Option.some.injEq,Addr.mk.injEq,and_true,true_and] at hv
  obtain⟨rfl,rfl⟩:=hv
  exact⟨h3,h4,cur,h2,by simpa using h5,by simpa using h6,h1⟩
theorem oN {P:Program} {ops:Array Oper} {o:Oper} {a:Act} {w:World} {K:Act→World→Prop} {Q:Exit→Act→World→Prop} {E:Prop}
  (hg:o.guard=none) (s x:Operand) (t:TypeId) (hop:o.op=Op.call { callee:=Callee.builtin Builtin.append,args:=#[s,x],argTypes:=#[t,t] }) (v1 v2:Value) (hs:a.eval s=v1) (hx:a.eval x=v2)
  (v:Value) (w':World) (hr:(Builtin.append_ #[t,t] o.type #[v1,v2]).run P w=.ok v w') (hK:K (a.put o.dst v) w') :
  if Region.wanted o (yielded ops a.tmps)=true then Oper.wp P o a w K Q else E:=by
 have hw:Region.wanted o (yielded ops a.tmps)=true:=by simp[Region.wanted,hg]
 rw[if_pos hw]
 unfold Oper.wp execOp
 simp only[hop,resolve,invoke,builtin,Sem.run_bind,Sem.run_pure,Result.andThen_ok,List.map_toArray,List.map_cons,List.map_nil,hs,hx,hr]
 exact hK
theorem UG (w:World) (a:Addr) (n c:Nat) (hc:n≤c) (hm:c≤maxLen) :
  Calls Tryz.prog 171 #[.slice (some a) n c,.int .i64 0,.int .i64 0] w (fun e w'=>e=.returned (.slice (some a) n c)∧w'=w):=by
 unfold maxLen at hm
 go_enter func171,ntmps171
 go_wp2_with fail
 all_goals
  go_ret
  exact⟨rfl,rfl⟩
theorem Q9 (w:World) (lo g n c:Nat) (xs:List Value) (h:w.ownsRow lo 97 1 (.slice (some ⟨g,0,none⟩) n c) n xs) (h2:2≤n) (hone:∀ u∈xs,u.oneCell'=true) :
  Calls Tryz.prog 171 #[.slice (some ⟨g,0,none⟩) n c,.int .i64 0,.int .i64 1] w (fun e w'=>e=.returned (.slice (some ⟨g,0,none⟩) (n-1) c)∧w'.ownsRow lo 97 1 (.slice (some ⟨g,0,none⟩) (n-1) c) (n-1) (xs.drop 1)∧aN (fun k=>k=g) w w'):=by
 obtain⟨hnc,hcm,cur,hg,hcs,htk,hlo⟩:=mV h
 have hxl:xs.length=n:=by have:=h.1;omega
 obtain⟨iI,wX,hI0,hI1,hI2⟩:=info_parts Tryz.infoBytesK
 have h0:w.drew.ownsRow lo 97 1 (.slice (some ⟨g,0,none⟩) 0 c) 0 []:=⟨rfl,.inr ⟨g,c,cur,rfl,hlo,hg,Nat.zero_le _,hcm,by simpa using hcs,by simp⟩⟩
 obtain⟨w1,hr,hown,hgr⟩:=run_append_fits (P:=Tryz.prog) w.drew lo 103 103 97 iI 1 underlying103 wX hI1 g 0 c [] h0 ⟨g,1,none⟩ (n-1) (c-1) (xs.drop 1) (by rw[List.length_drop];omega) (fun j u hu=>by
  rw[jO _ _ rfl,List.getElem?_drop] at *
  have:=h.cells (g:=g) rfl (1+j) u (by rw[Nat.add_comm];simpa[Nat.add_comm] using hu)
  rw[jO _ _ rfl] at this
  simpa using this) (fun u hu=>hone u (List.mem_of_mem_drop hu)) (by omega)
 simp only[Nat.zero_add,List.nil_append] at hr hown
 unfold maxLen at hcm
 have hcg:¬ c=1:=by omega
 have hn1:(1:Int)≤(n:Int):=by omega
 obtain⟨aeF,_,ZV,hg1,hcs1,ab7,_⟩:=mV hown
 have hz:(Value.slice none 0 0).cells=#[.slice none 0 0]:=rfl
 have hB1:aU w1 g 97 ZV.toList:=by unfold aU;rw[Array.toArray_toList];exact hg1
 have hcl:∀ ty,(Builtin.clear_ #[103] ty #[.slice (some ⟨g,n-1,none⟩) (n-(n-1)) (c-(n-1))]).run Tryz.prog w1=.ok (.tuple #[]) (w1.setCell ⟨g,n-1,none⟩ (.slice none 0 0)):=fun ty=>by
  rw[show n-(n-1)=1 by omega]
  exact Q8 hB1 (by rw[Array.length_toList];omega) _ ty
 have Zm:Hid ((w1.setCell ⟨g,n-1,none⟩ (.slice none 0 0)).ownsRow lo 97 1 (.slice (some ⟨g,0,none⟩) (n-1) c) (n-1) (xs.drop 1)):=by
  refine⟨hown.1,.inr ⟨g,c,ZV.setIfInBounds (n-1) (.slice none 0 0),rfl,hlo,heap_setCell_same w1 g (n-1) ZV _ _ hg1,aeF,by unfold maxLen;omega,by simpa using hcs1,?_⟩⟩
  rw[Array.toList_setIfInBounds,Nat.mul_one,List.take_set_of_le (Nat.le_refl _)]
  exact ab7
 have hc1:aN (fun k=>k=g) w.drew w1:=⟨hgr.os,hgr.tape,hgr.output,hgr.size,fun k hk hf=>hgr.block k hk (fun e=>hf (Option.some.inj e))⟩
 have hcc:aN (fun k=>k=g) w (w1.setCell ⟨g,n-1,none⟩ (.slice none 0 0)):=((aN.refl _ w).drew.same hc1).setCell _ _ (fun _=>rfl)
 have hn0:n-1≤c:=by omega
 have HR:=hid hr
 clear hr hown h h0 htk hg hg1 ab7 hgr hc1 hB1
 go_enter func171,ntmps171
 go_wp2_with fail
 go_region_law (refine oN rfl (.tmp 22) (.tmp 25) 103 rfl _ _ rfl rfl _ w1 HR.out ?_)
 all_goals
  go_wp2_with fail
  go_ret
  exact⟨rfl,Zm.out,hcc⟩
theorem uF (w:World) (ty t e:TypeId) (z:Value) (size bytes:Nat) (ht:Tryz.prog.underlying t=some (.slice e)) (hi:(Tryz.prog.info? e).map (fun i=>(i.zero,i.size,i.bytes))=some (some z,size,bytes))
  (hzs:z.cells.size=size) (hsz:0<size) (v:Value) (n:Nat) (xs:List Value) (lo:Nat) (hP:w.ownsRow lo e size v n xs) (ad:Addr) (m c:Nat) (news:List Value)
  (hl:news.length=m*size) (hnews:∀ j u,news[j]? = some u→w.cell? (ad.add j)=some u) (h1:∀ u∈news,u.oneCell'=true) (hlen:n+m≤maxLen) (hbytes:(n+m)*bytes≤140737488355328) (hlo:lo≤w.heap.size) :
  ∃ a' c' w',(Builtin.append_ #[t,t] ty #[v,.slice (some ad) m c]).run Tryz.prog w=.ok (.slice a' (n+m) c') w'∧w'.ownsRow lo e size (.slice a' (n+m) c') (n+m) (xs++news)∧Grew w w' v (.slice a' (n+m) c'):=by
 obtain⟨iI,wX,hI0,hI1,hI2⟩:=info_parts hi
 obtain⟨v',w',hr,h2,h3,_,h5⟩:=run_append_own_at (P:=Tryz.prog) w lo t ty e iI z size bytes ht wX hI0 hI1 hI2 hzs hsz v n xs hP ad m c news hl hnews h1 hlen hbytes hlo
 obtain⟨a',c',hv'⟩:=ak h2
 subst hv'
 exact⟨a',c',w',hr,h2,h3,fun k hk=>by
  rcases h5 with h5 | h5
  ·exact Or.inl (h5 ▸ hk)
  ·rw[hk] at h5;cases h5;exact Or.inr (Nat.le_refl _)⟩
theorem Tryz.infoPay:(Tryz.prog.info? 162).map (fun i=>(i.zero,i.size,i.bytes))=some (some (.agg #[.int .u8 0,.int .u64 0,.int .u64 0,.int .u64 0,.int .u64 0,.string ⟨#[]⟩]),6,56):=by kernel_rfl
theorem CO (w:World) (b:Nat) (i0 i2 i3:Value) (W:Int) (last:Int) (had up:Bool) (token:Nat) (silence:Int) (aa:Option Addr) (an ac next:Nat) (sa:Option Addr) (sn sc made:Nat) (calls:Value) (called:Nat) (L:List gG) (q m:Nat)
  (h:aW w b 80 i0 (.int .i64 W) i2 i3 last had up (jV token silence (.slice aa an ac) next (.slice sa sn sc) made calls called) L q m) :
  Calls Tryz.prog 121 #[.pointer (some ⟨b,0,none⟩)] w (fun e w'=>e=.returned (.bool (decide (8≤sn)||decide (W≤an)))∧Below w.heap.size w w'):=by
 have d1:w.cell? ⟨b,1,none⟩=some (.int .i64 W):=h.blk.cell 1
 have d13:w.cell? ⟨b,13,none⟩=some (.slice aa an ac):=h.blk.cell 13
 have d15:w.cell? ⟨b,15,none⟩=some (.slice sa sn sc):=h.blk.cell 15
 clear h
 by_cases h8:8≤sn
 ·have h8I:decide ((8:Int)≤(sn:Int))=true:=by simp;omega
  go_enter func121,ntmps121
  go_wp2_with fail
  go_region
  all_goals
   go_wp2_with fail
   go_ret
   exact⟨aG (by simp[h8]),(Below.refl _ _).drew⟩
 ·have h8I:decide ((8:Int)≤(sn:Int))=false:=by simp;omega
  go_enter func121,ntmps121
  go_wp2_with fail
  go_region
  all_goals
   go_wp2_with fail
   go_ret
   exact⟨aG (by simp[h8]),(Below.refl _ _).drew⟩
theorem UH (w:World) (b:Nat) (v0 v1 v2 v3 v4 v5:Value) (h:w.cell? ⟨b,11,none⟩=some (.int .u64 0)) (hb:b<w.heap.size) :
  Calls Tryz.prog 104 #[.pointer (some ⟨b,0,none⟩),.agg #[v0,v1,v2,v3,v4,v5]] w (fun e w'=>e=.returned (.tuple #[])∧Below w.heap.size w w'):=by
 have hb0:Below w.heap.size w (w.alloc (.cells #[v0,v1,v2,v3,v4,v5] 162)):=(Below.refl _ _).alloc (Nat.le_refl _) _
 have d:(w.alloc (.cells #[v0,v1,v2,v3,v4,v5] 162)).cell? ⟨b,11,none⟩=some (.int .u64 0):=(hb0.cell (p:=⟨b,11,none⟩) hb).trans h
 obtain⟨w0,hw0⟩:∃ w0,w.alloc (.cells #[v0,v1,v2,v3,v4,v5] 162)=w0:=⟨_,rfl⟩
 rw[hw0] at hb0 d
 go_enter func104,ntmps104
 go_wp2_with fail
 go_end0
 exact⟨rfl,hb0⟩
theorem Ad (w:World) (b:Nat) (i0 i1 i2 i3:Value) (last:Int) (had up:Bool) (token:Nat) (silence:Int) (asked:Value) (an next:Nat) (streams:Value) (made:Nat) (calls:Value) (called:Nat) (L:List gG) (q m lo:Nat) (xs:List Value)
  (h:aW w b 80 i0 i1 i2 i3 last had up (jV token silence asked next streams made calls called) L q m) (hA:w.ownsRow lo 162 6 asked an xs) (han:an≤1000) (hnx:next≤1000) (hlo:lo≤w.heap.size) (kind:Int) (tk se nu po:Int) (dat:ByteArray) :
  Calls Tryz.prog 122 #[.pointer (some ⟨b,0,none⟩),.agg #[.int .u8 kind,.int .u64 tk,.int .u64 se,.int .u64 nu,.int .u64 po,.string dat]] w (fun e w'=>e=.returned (.int .u64 next)∧∃ a' c' xs',aW w' b 80 i0 i1 i2 i3 last had up (jV token silence (.slice a' (an+1) c') (next+1) streams made calls called) L q m∧w'.ownsRow lo 162 6 (.slice a' (an+1) c') (an+1) xs'∧(∀ g,(Value.slice a' (an+1) c').ownBlock=some g→asked.ownBlock=some g∨w.heap.size≤g)∧aN (fun k=>k=b∨asked.ownBlock=some k) w w'):=by
 have hlt:=h.blk.lt
 have hb0:Below w.heap.size w (w.alloc (.cells #[.int .u8 kind,.int .u64 tk,.int .u64 se,.int .u64 nu,.int .u64 po,.string dat] 162)):=(Below.refl _ _).alloc (Nat.le_refl _) _
 have hP0:aU (w.alloc (.cells #[.int .u8 kind,.int .u64 tk,.int .u64 se,.int .u64 nu,.int .u64 po,.string dat] 162)) w.heap.size 162 [.int .u8 kind,.int .u64 tk,.int .u64 se,.int .u64 nu,.int .u64 po,.string dat]:=heap_alloc_new w _
 have hz0:(w.alloc (.cells #[.int .u8 kind,.int .u64 tk,.int .u64 se,.int .u64 nu,.int .u64 po,.string dat] 162)).heap.size=w.heap.size+1:=by simp
 have h0:=h.below hb0
 have hA0:=au hA (fun g hg=>hb0.block g (hA.lt g hg).2)
 obtain⟨w0,hw0⟩:∃ w0,w.alloc (.cells #[.int .u8 kind,.int .u64 tk,.int .u64 se,.int .u64 nu,.int .u64 po,.string dat] 162)=w0:=⟨_,rfl⟩
 rw[hw0] at hb0 hP0 h0 hA0 hz0
 have d14:w0.cell? ⟨b,14,none⟩=some (.int .u64 next):=h0.blk.cell 14
 have p3:w0.cell? ⟨w.heap.size,3,none⟩=some (.int .u64 nu):=hP0.cell 3
 have f3:=hP0.frozen 3
 have hbP:b≠w.heap.size:=by omega
 -- the number
 have hP1:aU (w0.setCell ⟨w.heap.size,3,none⟩ (.int .u64 next)) w.heap.size 162 [.int .u8 kind,.int .u64 tk,.int .u64 se,.int .u64 next,.int .u64 po,.string dat]:=hP0.set 3 _
 have hc1:aN (fun k=>k=w.heap.size) w0 (w0.setCell ⟨w.heap.size,3,none⟩ (.int .u64 next)):=(aN.refl _ _).setCell _ _ (fun _=>rfl)
 have JC:=h.oD.lt
 have hml:=h.pO.lt
 have h1:=h0.fZ hc1 hbP (by omega) (by omega)
 have hA1:=hc1.own hA0 (fun g hg e=>by have:=(hA.lt g hg).2;omega)
 have hz1:(w0.setCell ⟨w.heap.size,3,none⟩ (.int .u64 next)).heap.size=w.heap.size+1:=by simp[hz0]
 obtain⟨w1,hw1⟩:∃ w1,w0.setCell ⟨w.heap.size,3,none⟩ (.int .u64 next)=w1:=⟨_,rfl⟩
 rw[hw1] at hP1 hc1 h1 hA1 hz1
 have e14:w1.cell? ⟨b,14,none⟩=some (.int .u64 next):=h1.blk.cell 14
 have g14:=h1.blk.frozen 14
 have hB2:aU (w1.setCell ⟨b,14,none⟩ (.int .u64 ((next:Int)+1))) b 80 (rG i0 i1 i2 i3 last had up q m (jV token silence asked (next+1) streams made calls called)):=h1.blk.set 14 _
 have hc2:aN (fun k=>k=b) w1 (w1.setCell ⟨b,14,none⟩ (.int .u64 ((next:Int)+1))):=(aN.refl _ _).setCell _ _ (fun _=>rfl)
 have hP2:=hP1.fZ hc2 (fun e=>hbP e.symm)
 have h2:aW (w1.setCell ⟨b,14,none⟩ (.int .u64 ((next:Int)+1))) b 80 i0 i1 i2 i3 last had up (jV token silence asked (next+1) streams made calls called) L q m:=⟨hB2,h1.oD.fZ hc2 (fun e=>h1.blk.lK h1.oD e.symm),h1.pO.fZ hc2 (fun e=>h1.blk.gV h1.pO e.symm)⟩
 have hnb:asked.ownBlock≠some b:=h1.blk.mQ hA1 (by decide)
 have hA2:=hc2.own hA1 (fun g hg e=>hnb (e ▸ hg))
 have hz2:(w1.setCell ⟨b,14,none⟩ (.int .u64 ((next:Int)+1))).heap.size=w.heap.size+1:=by simp[hz1]
 obtain⟨w2,hw2⟩:∃ w2,w1.setCell ⟨b,14,none⟩ (.int .u64 ((next:Int)+1))=w2:=⟨_,rfl⟩
 rw[hw2] at hB2 hc2 hP2 h2 hA2 hz2
 have k13:w2.drew.cell? ⟨b,13,none⟩=some asked:=h2.blk.cell 13
 have r0:w2.drew.cell? ⟨w.heap.size,0,none⟩=some (.int .u8 kind):=hP2.cell 0
 have r1:w2.drew.cell? ⟨w.heap.size,1,none⟩=some (.int .u64 tk):=hP2.cell 1
 have r2:w2.drew.cell? ⟨w.heap.size,2,none⟩=some (.int .u64 se):=hP2.cell 2
 have r3:w2.drew.cell? ⟨w.heap.size,3,none⟩=some (.int .u64 next):=hP2.cell 3
 have r4:w2.drew.cell? ⟨w.heap.size,4,none⟩=some (.int .u64 po):=hP2.cell 4
 have r5:w2.drew.cell? ⟨w.heap.size,5,none⟩=some (.string dat):=hP2.cell 5
 have hb3:Below w2.heap.size w2 (w2.alloc (.cells #[.int .u8 kind,.int .u64 tk,.int .u64 se,.int .u64 next,.int .u64 po,.string dat] 162)).drew:=((Below.refl _ _).alloc (Nat.le_refl _) _).drew
 have hN3:aU (w2.alloc (.cells #[.int .u8 kind,.int .u64 tk,.int .u64 se,.int .u64 next,.int .u64 po,.string dat] 162)).drew w2.heap.size 162 [.int .u8 kind,.int .u64 tk,.int .u64 se,.int .u64 next,.int .u64 po,.string dat]:=heap_alloc_new w2 _
 have h3:=h2.below hb3
 have hP3:=hP2.below hb3
 have hA3:=au hA2 (fun g hg=>hb3.block g (hA2.lt g hg).2)
 have v13:(w2.alloc (.cells #[.int .u8 kind,.int .u64 tk,.int .u64 se,.int .u64 next,.int .u64 po,.string dat] 162)).drew.cell? ⟨b,13,none⟩=some asked:=h3.blk.cell 13
 have hz3:(w2.alloc (.cells #[.int .u8 kind,.int .u64 tk,.int .u64 se,.int .u64 next,.int .u64 po,.string dat] 162)).drew.heap.size=w.heap.size+2:=by show (w2.alloc _).heap.size=_;simp[hz2]
 obtain⟨a',c',w4,hr,hA4,hg4⟩:=uF _ 76 76 162 _ 6 56 underlying76 Tryz.infoPay rfl (by decide) asked an xs lo hA3 ⟨w2.heap.size,0,none⟩ 1 1 [.int .u8 kind,.int .u64 tk,.int .u64 se,.int .u64 next,.int .u64 po,.string dat] rfl (fun j u hu=>by
  rw[jO _ _ rfl]
  have:=hN3.cell (0+j)
  rw[this]
  simpa using hu) (fun u hu=>by simp at hu;rcases hu with rfl | rfl | rfl | rfl | rfl | rfl<;>rfl) (by unfold maxLen;omega) (by omega) (by omega)
 have hc4:aN (fun k=>asked.ownBlock=some k) w2 w4:=(aN.of_below hb3).same (aN.grew hg4 (fun k hk=>hk))
 have hnq:asked.ownBlock≠some q:=fun e=>by
  obtain⟨cur,hc⟩:=jZ hA e
  obtain⟨s,r,k⟩:=h.oD
  rw[k] at hc;cases hc
 have hnm:asked.ownBlock≠some m:=fun e=>by
  obtain⟨cur,hc⟩:=jZ hA e
  obtain⟨es,clock,k,_⟩:=h.pO
  rw[k] at hc;cases hc
 have h4:aW w4 b 80 i0 i1 i2 i3 last had up (jV token silence asked (next+1) streams made calls called) L q m:=h2.fZ hc4 hnb hnq hnm
 have hP4:=hP2.fZ hc4 (fun e=>by have:=(hA.lt _ e).2;omega)
 have j13:w4.cell? ⟨b,13,none⟩=some asked:=h4.blk.cell 13
 have l13:=h4.blk.frozen 13
 have BI:aU (w4.setCell ⟨b,13,none⟩ (.slice a' (an+1) c')) b 80 (rG i0 i1 i2 i3 last had up q m (jV token silence (.slice a' (an+1) c') (next+1) streams made calls called)):=h4.blk.set 13 _
 have hc5:aN (fun k=>k=b) w4 (w4.setCell ⟨b,13,none⟩ (.slice a' (an+1) c')):=(aN.refl _ _).setCell _ _ (fun _=>rfl)
 have hnew:∀ g,(Value.slice a' (an+1) c').ownBlock=some g→asked.ownBlock=some g∨w.heap.size≤g:=fun g hg=>by
  rcases hg4.b g hg with e | e
  ·exact Or.inl e
  ·exact Or.inr (by omega)
 have hnb':(Value.slice a' (an+1) c').ownBlock≠some b:=h4.blk.mQ hA4 (by decide)
 have hA5:=hc5.own hA4 (fun g hg e=>hnb' (e ▸ hg))
 have h5:aW (w4.setCell ⟨b,13,none⟩ (.slice a' (an+1) c')) b 80 i0 i1 i2 i3 last had up (jV token silence (.slice a' (an+1) c') (next+1) streams made calls called) L q m:=⟨BI,h4.oD.fZ hc5 (fun e=>h4.blk.lK h4.oD e.symm),h4.pO.fZ hc5 (fun e=>h4.blk.gV h4.pO e.symm)⟩
 have X5:=hP4.fZ hc5 (fun e=>hbP e.symm)
 have hcA:aN (fun k=>k=b∨asked.ownBlock=some k) w (w4.setCell ⟨b,13,none⟩ (.slice a' (an+1) c')):=((aN.of_below hb0).trans (hc1.mono (G:=fun k=>k=b∨k=w.heap.size∨asked.ownBlock=some k) (fun i _ e=>Or.inr (Or.inl e)) |>.same ((hc2.mono (fun i _ e=>Or.inl e)).same ((hc4.mono (fun i _ e=>Or.inr (Or.inr e))).same (hc5.mono (fun i _ e=>Or.inl e))))) (fun i hi e=>by
  rcases e with e | e | e
  ·exact Or.inl e
  ·omega
  ·exact Or.inr e))
 obtain⟨w5,hw5⟩:∃ w5,w4.setCell ⟨b,13,none⟩ (.slice a' (an+1) c')=w5:=⟨_,rfl⟩
 rw[hw5] at BI hc5 hA5 h5 X5 hcA
 have s0:w5.cell? ⟨w.heap.size,0,none⟩=some (.int .u8 kind):=X5.cell 0
 have s1:w5.cell? ⟨w.heap.size,1,none⟩=some (.int .u64 tk):=X5.cell 1
 have s2:w5.cell? ⟨w.heap.size,2,none⟩=some (.int .u64 se):=X5.cell 2
 have s3:w5.cell? ⟨w.heap.size,3,none⟩=some (.int .u64 next):=X5.cell 3
 have s4:w5.cell? ⟨w.heap.size,4,none⟩=some (.int .u64 po):=X5.cell 4
 have s5:w5.cell? ⟨w.heap.size,5,none⟩=some (.string dat):=X5.cell 5
 have H5:=hid h5
 have HA5:=hid hA5
 have wZ:=hid X5
 have HR:=hid hr
 have HN:=hid hnew
 have HC:=hid hcA
 obtain⟨aa,ac,rfl⟩:=ak hA
 clear h h0 h1 h2 h3 h4 h5 hA hA0 hA1 hA2 hA3 hA4 hA5 hP0 hP1 hP2 hP3 hP4 X5 hB2 BI hN3 hc1 hc2 hc4 hc5 hr hg4 hnew hcA hb0 hb3 hz0 hz1 hz2 hz3
 go_enter func122,ntmps122
 go_wp2_with fail
 go_region_law (refine oN rfl (.tmp 21) (.tmp 23) 76 rfl _ _ rfl rfl _ w4 HR.out ?_)
 all_goals
  go_wp2_with fail
  refine(UH w5 b _ _ _ _ _ _ (H5.out.blk.cell 11) H5.out.blk.lt).mono ?_;rintro e w6 ⟨rfl,hb6⟩
  have u3:w6.cell? ⟨w.heap.size,3,none⟩=some (.int .u64 next):=(wZ.out.below hb6).cell 3
  have H6:=hid (H5.out.below hb6)
  go_wp2_with fail
  go_ret
  exact⟨rfl,a',c',_,H6.out,au HA5.out (fun g hg=>hb6.block g (HA5.out.lt g hg).2),HN.out,HC.out.wY hb6⟩
theorem Rf (w:World) (b:Nat):(binOp .eql 136 (.pointer (some ⟨b,0,none⟩)) (.pointer none)).run Tryz.prog w=.ok (.bool false) w:=by
 have h1:∀ d:Nat,(Op.equalIn (d+1) 136 (.pointer (some ⟨b,0,none⟩)) (.pointer none)).run Tryz.prog w=.ok false w:=fun d=>by simp[Op.equalIn,run_underlying underlying136]
 have h2:(Op.equal 136 (.pointer (some ⟨b,0,none⟩)) (.pointer none)).run Tryz.prog w=.ok false w:=h1 9999
 simp[binOp,h2]
theorem NQ (w:World):(binOp .eql 136 (.pointer none) (.pointer none)).run Tryz.prog w=.ok (.bool true) w:=by
 have h1:∀ d:Nat,(Op.equalIn (d+1) 136 (.pointer none) (.pointer none)).run Tryz.prog w=.ok true w:=fun d=>by simp[Op.equalIn,run_underlying underlying136]
 have h2:(Op.equal 136 (.pointer none) (.pointer none)).run Tryz.prog w=.ok true w:=h1 9999
 simp[binOp,h2]
def Named (Ts:List dU) (name:ByteArray) (o:Option (Nat × dU)):Prop := (o = none ∧ ∀ t∈Ts,t.name.toList≠name.toList) ∨ ∃ (k:Nat) (t:dU),o = some (k,t) ∧ Ts[k]? = some t ∧ t.name.toList = name.toList
theorem Named.no {Ts:List dU} {name:ByteArray} (h:∀ t∈Ts,t.name.toList≠name.toList):Named Ts name none := Or.inl ⟨rfl,h⟩
theorem Named.yes {Ts:List dU} {name:ByteArray} (k:Nat) (t:dU) (h:Ts[k]? = some t) (hn:t.name.toList = name.toList):Named Ts name (some (k,t)) := Or.inr ⟨k,t,rfl,h,hn⟩
theorem Named.ind {Ts:List dU} {name:ByteArray} {motive:∀ o,Named Ts name o → Prop} (no:∀ h,motive none (.no h)) (yes:∀ k t h hn,motive (some (k,t)) (.yes k t h hn)):∀ {o} (h:Named Ts name o),motive o h
  | _,.inl ⟨rfl,h⟩ => no h
  | _,.inr ⟨k,t,rfl,h,hn⟩ => yes k t h hn
theorem uG (w:World) (b:Nat) (i0 i1 i2 i3:Value) (last:Int) (had up:Bool) (aI:Value) (ms mo:Nat) (L:List gG) (q m lo:Nat) (Ts:List dU)
  (h:aW w b 75 i0 i1 i2 i3 last had up (nT aI ms mo) L q m) (ht:iD w lo aI Ts) (hl:Ts.length≤400) (name:ByteArray) :
  Calls Tryz.prog 111 #[.pointer (some ⟨b,0,none⟩),.string name] w (fun e w'=>Below w.heap.size w w'∧∃ o,Named Ts name o∧e=.returned (match o with | none=>.tuple #[.pointer none,.int .i64 11] | some (_,t)=>bif t.fin then .tuple #[.pointer none,.int .i64 12] else .tuple #[jr t.blk,.int .i64 0])):=by
 have H:=hid h
 have HT:=hid ht
 clear h ht
 go_enter func111,ntmps111
 go_wp2_with fail
 refine(Q7 w b i0 i1 i2 i3 last had up aI ms mo L q m lo Ts H.out HT.out hl name).mono ?_;rintro e w1 ⟨hb1,hor⟩
 rcases hor with⟨k,t,hk,hn,rfl⟩ | ⟨hno,rfl⟩
 ·have hN:=hid (Named.yes (Ts:=Ts) (name:=name) k t hk hn)
  have hq:=Rf w1 t.blk
  have hB:=((HT.out.below hb1).each t (List.mem_of_getElem? hk)).cell 4
  have d4:w1.cell? ⟨t.blk,4,none⟩=some (.bool t.fin):=hB
  clear hk hn hB
  unfold jr
  cases hf:t.fin
  ·rw[hf] at d4
   go_wp2_with fail
   go_ret2
   exact⟨hb1,_,hN.out,by simp only[hf];rfl⟩
  ·rw[hf] at d4
   go_wp2_with fail
   go_ret2
   exact⟨hb1,_,hN.out,by simp only[hf];rfl⟩
 ·have hN:=hid (Named.no (Ts:=Ts) (name:=name) hno)
  have hq:=NQ w1
  clear hno
  go_wp2_with fail
  go_ret2
  exact⟨hb1,_,hN.out,rfl⟩
theorem xY (w:World) (b:Nat) (i0 i1 i2 i3:Value) (last:Int) (had up:Bool) (aI:Value) (ms mo:Nat) (L:List gG) (q m:Nat)
  (h:aW w b 75 i0 i1 i2 i3 last had up (nT aI ms mo) L q m) (v:Value) :
  Calls Tryz.prog 114 #[.pointer (some ⟨b,0,none⟩),v] w (fun e w'=>e=.returned (.tuple #[])∧w'=w):=by
 have d11:w.cell? ⟨b,11,none⟩=some (.pointer none):=h.blk.cell 11
 have hq:=Ac w
 clear h
 go_enter func114,ntmps114
 go_wp2_with fail
 (try simp only[Exit.inBlock,Exit.then]);refine bodyPost_ret (results_none rfl _ _ _) rfl ?_
 exact⟨rfl,rfl⟩
theorem ab8:(75:TypeId) ≠ 138:=by decide
theorem J4 (w:World) (b:Nat) (i0 i1 i2 i3:Value) (last:Int) (had up:Bool) (aI:Value) (ms mo:Nat) (L:List gG) (q m lo:Nat) (Ts:List dU)
  (h:aW w b 75 i0 i1 i2 i3 last had up (nT aI ms mo) L q m) (ht:iD w lo aI Ts) (hl:Ts.length≤400) (name:ByteArray) :
  Calls Tryz.prog 78 #[.pointer (some ⟨b,0,none⟩),.string name] w (fun e w'=>∃ o,Named Ts name o∧match o with
   | none=>e=.returned (.int .i64 11)∧Below w.heap.size w w'
   | some (k,t)=>if t.fin=true then e=.returned (.int .i64 12)∧Below w.heap.size w w' else e=.returned (.int .i64 0)∧aW w' b 75 i0 i1 i2 i3 last had up (nT aI ms mo) L q m∧iD w' lo aI (Ts.set k { t with fin:=true })∧aN (fun i=>i=t.blk) w w'):=by
 have H:=hid h
 have HT:=hid ht
 clear h ht
 go_enter func78,ntmps78
 go_wp2_with fail
 refine(uG w b i0 i1 i2 i3 last had up aI ms mo L q m lo Ts H.out HT.out hl name).mono ?_;rintro e w1 ⟨hb1,o,hN,rfl⟩
 cases hN using Named.ind with
 | no hno=>
  have HN:=hid hno
  clear hno
  simp only
  go_wp2_with fail
  go_ret
  exact⟨none,Named.no HN.out,rfl,hb1⟩
 | yes k t hk hn=>
  have HK:=hid hk
  have HN:=hid hn
  clear hk hn
  cases hf:t.fin
  ·simp only[hf,cond_false]
   unfold jr
   have ht1:=HT.out.below hb1
   have h1:=H.out.below hb1
   have hB:=ht1.each t (List.mem_of_getElem? HK.out)
   have d4:w1.cell? ⟨t.blk,4,none⟩=some (.bool t.fin):=hB.cell 4
   have g4:=hB.frozen 4
   have hc:aN (fun i=>i=t.blk) w1 (w1.setCell ⟨t.blk,4,none⟩ (.bool true)):=(aN.refl _ _).setCell _ _ (fun _=>rfl)
   have hE:aW (w1.setCell ⟨t.blk,4,none⟩ (.bool true)) b 75 i0 i1 i2 i3 last had up (nT aI ms mo) L q m:=h1.fZ hc (fun e=>h1.blk.Ij hB ab8.symm e) (fun e=>hB.lK h1.oD e.symm) (fun e=>hB.gV h1.pO e.symm)
   have hT2:=HT.out.below hb1 |>.upd (t':={ t with fin:=true }) HK.out rfl hc (fun k e=>Or.inl e) (hB.set 4 _) (by
    have:=ht1.kept t (List.mem_of_getElem? HK.out)
    exact⟨hc.own this.1 (fun g hg e=>hB.mQ this.1 UF.symm (e ▸ hg)),this.2⟩) (fun g hg=>Or.inl hg)
   have HE:=hid hE
   have HT2:=hid hT2
   clear ht1 h1 hB hE hT2
   go_wp2_with fail
   refine(xY _ b i0 i1 i2 i3 last had up aI ms mo L q m HE.out _).mono ?_;rintro e w2 ⟨rfl,rfl⟩
   go_wp2_with fail
   go_ret
   refine⟨some (k,t),Named.yes k t HK.out HN.out,?_⟩
   simp only[hf,Bool.false_eq_true,if_false]
   exact⟨rfl,HE.out,HT2.out,(aN.of_below hb1).same hc⟩
  ·simp only[hf,cond_true]
   go_wp2_with fail
   go_ret
   refine⟨some (k,t),Named.yes k t HK.out HN.out,?_⟩
   simp only[hf,if_true]
   exact⟨rfl,hb1⟩
def xZ (R:Nat) (kv:List Value) (d:Value):List Value:=if kv.length+1≤R then kv++[d] else(kv++[d]).drop 1
def NR (w:World) (lo:Nat) (v:Value) (Ts:List dU) (k:Nat) (t:dU) (R:Nat) (d:Value) (e:Ending) (w':World):Prop:=e=.returned (.tuple #[])∧∃ kept',iD w' lo v (Ts.set k { t with count:=t.count+1,kept:=kept',kv:=xZ R t.kv d })∧aN (fun i=>i=t.blk∨t.kept.ownBlock=some i) w w'
theorem NS (w:World) (lo:Nat) (v:Value) (Ts:List dU) (k:Nat) (t:dU) (R:Nat) (da:Option Addr) (dl dc:Nat) (h:iD w lo v Ts) (hk:Ts[k]? = some t) (hR:1≤R∧R≤16) (hn:t.kv.length≤R) (hcount:t.count<1000000000000) (hlo:lo≤w.heap.size) :
  Calls Tryz.prog 113 #[.pointer (some ⟨t.blk,0,none⟩),.slice da dl dc,.int .i64 R] w (NR w lo v Ts k t R (.slice da dl dc)):=by
 have CJ:=List.mem_of_getElem? hk
 have hB:=h.each t CJ
 have hK:=h.kept t CJ
 have hb0:Below w.heap.size w (w.alloc (.cells #[.slice da dl dc] 97)):=(Below.refl _ _).alloc (Nat.le_refl _) _
 have hB0:=hB.below hb0
 have hK0:(w.alloc (.cells #[.slice da dl dc] 97)).ownsRow lo 97 1 t.kept t.kv.length t.kv:=au hK.1 (fun g hg=>hb0.block g (hK.1.lt g hg).2)
 have hN0:aU (w.alloc (.cells #[.slice da dl dc] 97)) w.heap.size 97 [.slice da dl dc]:=heap_alloc_new w _
 have d3:w.cell? ⟨t.blk,3,none⟩=some t.kept:=hB.cell 3
 have hne0:t.kept.ownBlock≠some t.blk:=hB.mQ hK.1 UF.symm
 obtain⟨ka,kc,hkv⟩:=ak hK.1
 obtain⟨N,HN⟩:∃ N,Hid (t.kv.length+1=N):=⟨_,hid rfl⟩
 obtain⟨X,HX⟩:∃ X,Hid (t.kv++[.slice da dl dc]=X):=⟨_,hid rfl⟩
 have aiD:1≤N∧N≤17:=by have:=HN.out;omega
 have HH:=hid h
 have HB:=hid hB
 have HB0:=hid hB0
 have HK:=hid hK
 have HKK:=hid hk
 clear hB0 h hB hk
 rw[hkv] at d3
 go_enter func113,ntmps113
 go_wp2_with (at_builtin;refine fB _ rfl (.tmp 10) (.tmp 12) 103 97 (.slice none 0 0) 1 24 rfl underlying103 Tryz.infoBytesK rfl (by decide) t.kept t.kv.length t.kv lo (by rw[hkv];rfl) hK0 ⟨w.heap.size,0,none⟩ 1 1 [.slice da dl dc] rfl rfl (fun j u hu=>by
  rw[jO _ _ rfl]
  have:=hN0.cell (0+j)
  rw[this]
  simpa using hu) (fun u hu=>by simp at hu;subst hu;rfl) N HN.out X HX.out (by unfold maxLen;omega) (by omega) (by simp;omega) ?_)
 intro a1 c1 w1 hown1 hg1
 obtain⟨g,rfl⟩:∃ g,a1=some ⟨g,0,none⟩:=by
  rcases hown1.2 with⟨e,h0⟩ | ⟨g,cap,cur,hv,_⟩
  ·omega
  ·simp only[Value.slice.injEq] at hv
   exact⟨g,hv.1⟩
 have hc1:aN (fun i=>t.kept.ownBlock=some i) w w1:=(aN.of_below hb0).same (aN.grew hg1 (fun k hk=>by rw[hkv];exact hk))
 have hB1:aU w1 t.blk 138 (uD t):=HB.out.fZ hc1 hne0
 have hgn:t.kept.ownBlock=some g∨w.heap.size≤g:=by
  rcases hg1.b g rfl with e | e
  ·exact Or.inl (by rw[hkv];exact e)
  ·exact Or.inr (by simp at e;omega)
 have hbg:t.blk≠g:=fun e=>hB1.mQ hown1 UF.symm (by rw[e];rfl)
 obtain⟨hnc,hcm,_⟩:=mV hown1
 have e3:w1.cell? ⟨t.blk,3,none⟩=some t.kept:=hB1.cell 3
 have g3:=hB1.frozen 3
 have hB2:aU (w1.setCell ⟨t.blk,3,none⟩ (.slice (some ⟨g,0,none⟩) N c1)) t.blk 138 [.string t.name,.string t.base,.int .u64 t.count,.slice (some ⟨g,0,none⟩) N c1,.bool t.fin]:=hB1.set 3 _
 have hc2:aN (fun i=>i=t.blk) w1 (w1.setCell ⟨t.blk,3,none⟩ (.slice (some ⟨g,0,none⟩) N c1)):=(aN.refl _ _).setCell _ _ (fun _=>rfl)
 have hown2:=hc2.own hown1 (fun k hk e=>hbg (by simp[Value.ownBlock] at hk;omega))
 obtain⟨w2,hw2⟩:∃ w2,w1.setCell ⟨t.blk,3,none⟩ (.slice (some ⟨g,0,none⟩) N c1)=w2:=⟨_,rfl⟩
 rw[hw2] at hB2 hc2 hown2
 have f2:w2.cell? ⟨t.blk,2,none⟩=some (.int .u64 t.count):=hB2.cell 2
 have g2:=hB2.frozen 2
 have hB3:aU (w2.setCell ⟨t.blk,2,none⟩ (.int .u64 ((t.count:Int)+1))) t.blk 138 [.string t.name,.string t.base,.int .u64 ((t.count:Int)+1),.slice (some ⟨g,0,none⟩) N c1,.bool t.fin]:=hB2.set 2 _
 have hc3:aN (fun i=>i=t.blk) w2 (w2.setCell ⟨t.blk,2,none⟩ (.int .u64 ((t.count:Int)+1))):=(aN.refl _ _).setCell _ _ (fun _=>rfl)
 have hown3:=hc3.own hown2 (fun k hk e=>hbg (by simp[Value.ownBlock] at hk;omega))
 obtain⟨w3,hw3⟩:∃ w3,w2.setCell ⟨t.blk,2,none⟩ (.int .u64 ((t.count:Int)+1))=w3:=⟨_,rfl⟩
 rw[hw3] at hB3 hc3 hown3
 have k3:w3.cell? ⟨t.blk,3,none⟩=some (.slice (some ⟨g,0,none⟩) N c1):=hB3.cell 3
 have m3:=hB3.frozen 3
 have HC:Hid (aN (fun i=>i=t.blk∨t.kept.ownBlock=some i) w w3):=(hc1.mono (fun i _ e=>Or.inr e)).same ((hc2.mono (fun i _ e=>Or.inl e)).same (hc3.mono (fun i _ e=>Or.inl e)))
 have Zn:∀ u∈X,u.oneCell'=true:=fun u hu=>by
  rw[← HX.out,List.mem_append] at hu
  rcases hu with hu | hu
  ·exact HK.out.2.2 u hu
  ·simp at hu;subst hu;rfl
 have HB3:=hid hB3
 have NT:=hid hown3
 have HX1:=hid Zn
 have Ud:=hid hgn
 clear hK0 hb0 hN0 hown1 hown2 hown3 hg1 hc1 hc2 hc3 hB1 hB2 hB3 Zn hgn hK d3
 have hcm':c1≤9223372036854775807:=by unfold maxLen at hcm;omega
 by_cases hNR:N≤R
 ·have HMX:=hid (show (if 0<IntKind.i64.wrap ((N:Int)-(R:Int)) then IntKind.i64.wrap ((N:Int)-(R:Int)) else 0)=0 by rw[IntKind.wrap_i64,if_neg (by omega)])
  have hKL:Hid (xZ R t.kv (.slice da dl dc)=X):=by unfold xZ;rw[HN.out,if_pos hNR];exact HX.out
  have hlX:X.length=N:=by rw[← HX.out,← HN.out];simp
  have HLX:=hid hlX
  clear hlX
  go_wp2_with fail
  go_region_with (go_at_call 171;rw[HMX.out];refine(UG _ ⟨g,0,none⟩ N c1 hnc hcm).mono ?_;rintro e w4 ⟨rfl,rfl⟩)
  all_goals
   go_wp2_with fail
   go_end0
   have hB4:aU (w3.drew.setCell ⟨t.blk,3,none⟩ (.slice (some ⟨g,0,none⟩) N c1)) t.blk 138 [.string t.name,.string t.base,.int .u64 ((t.count:Int)+1),.slice (some ⟨g,0,none⟩) N c1,.bool t.fin]:=aU.set (w:=w3.drew) HB3.out 3 _
   have hc4:aN (fun i=>i=t.blk) w3 (w3.drew.setCell ⟨t.blk,3,none⟩ (.slice (some ⟨g,0,none⟩) N c1)):=((aN.refl _ w3).drew).setCell _ _ (fun _=>rfl)
   have hcA:=HC.out.same (hc4.mono (fun i _ e=>Or.inl e))
   refine⟨rfl,.slice (some ⟨g,0,none⟩) N c1,?_,hcA⟩
   rw[hKL.out]
   refine HH.out.upd HKK.out rfl hcA (fun i e=>e) hB4 ⟨?_,by show X.length≤16;rw[HLX.out];omega,HX1.out⟩ (fun g' hg'=>?_)
   ·show World.ownsRow _ lo 97 1 _ X.length X
    rw[HLX.out]
    exact hc4.own NT.out (fun k hk e=>hbg (by simp[Value.ownBlock] at hk;omega))
   ·simp[Value.ownBlock] at hg'
    subst hg'
    exact Ud.out
 ·have HMX:=hid (show (if 0<IntKind.i64.wrap ((N:Int)-(R:Int)) then IntKind.i64.wrap ((N:Int)-(R:Int)) else 0)=1 by have:=HN.out;rw[IntKind.wrap_i64,if_pos (by omega)];omega)
  have hKL:Hid (xZ R t.kv (.slice da dl dc)=X.drop 1):=by unfold xZ;rw[HN.out,if_neg hNR,HX.out];exact hid rfl
  have hlX:(X.drop 1).length=N-1:=by rw[← HX.out,← HN.out];simp
  have HLX:=hid hlX
  have h2N:2≤N:=by omega
  clear hlX
  go_wp2_with fail
  have hbl:t.blk<w3.drew.heap.size:=HB3.out.lt
  go_region_with (go_at_call 171;rw[HMX.out];refine(Q9 _ lo g N c1 X (show World.ownsRow w3.drew lo _ 1 _ N X from NT.out) h2N HX1.out).mono ?_;rintro e w4 ⟨rfl,EU,hc4⟩;have HO4:=hid EU;have uo:=hid hc4;clear EU hc4;have hB4:=aU.fZ (w:=w3.drew) HB3.out uo.out hbg;have k4:=hB4.cell 3;simp only[List.getElem?_cons_succ,List.getElem?_cons_zero] at k4;have m4:=hB4.frozen 3;have HB4:=hid hB4;clear hB4)
  all_goals
   go_wp2_with fail
   go_end0
   have BI:aU (w4.setCell ⟨t.blk,3,none⟩ (.slice (some ⟨g,0,none⟩) (N-1) c1)) t.blk 138 [.string t.name,.string t.base,.int .u64 ((t.count:Int)+1),.slice (some ⟨g,0,none⟩) (N-1) c1,.bool t.fin]:=HB4.out.set 3 _
   have hc5:aN (fun i=>i=t.blk) w4 (w4.setCell ⟨t.blk,3,none⟩ (.slice (some ⟨g,0,none⟩) (N-1) c1)):=(aN.refl _ w4).setCell _ _ (fun _=>rfl)
   have hc6:aN (fun i=>i=t.blk∨i=g) w3 (w4.setCell ⟨t.blk,3,none⟩ (.slice (some ⟨g,0,none⟩) (N-1) c1)):=((aN.refl _ w3).drew.same (uo.out.mono (fun i _ e=>Or.inr e))).same (hc5.mono (fun i _ e=>Or.inl e))
   have hcA:aN (fun i=>i=t.blk∨t.kept.ownBlock=some i) w (w4.setCell ⟨t.blk,3,none⟩ (.slice (some ⟨g,0,none⟩) (N-1) c1)):=HC.out.trans hc6 (fun i hi e=>by
    rcases e with e | e
    ·exact Or.inl e
    ·rcases Ud.out with h | h
     ·exact Or.inr (by rw[e];exact h)
     ·omega)
   refine⟨rfl,.slice (some ⟨g,0,none⟩) (N-1) c1,?_,hcA⟩
   rw[hKL.out]
   refine HH.out.upd HKK.out rfl hcA (fun i e=>e) BI ⟨?_,by show (X.drop 1).length≤16;rw[HLX.out];omega,fun u hu=>HX1.out u (List.mem_of_mem_drop hu)⟩ (fun g' hg'=>?_)
   ·show World.ownsRow _ lo 97 1 _ (X.drop 1).length (X.drop 1)
    rw[HLX.out]
    exact hc5.own HO4.out (fun k hk e=>hbg (by simp[Value.ownBlock] at hk;omega))
   ·simp[Value.ownBlock] at hg'
    subst hg'
    exact Ud.out
end Go.Proofs.YtgalebcpagmohaaGreatDoor
