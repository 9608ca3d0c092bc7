/- Package courier: the doors of servers and clients that were made. -/
import Derived.Test.YtolfcabodiphmaaGreatDoorV22
import Derived.Test.YtolfcabodiphmaaGreatDoorV17
import Derived.Test.YtolfcabodiphmaaGreatDoorV02
import Derived.Test.YtolfcabodiphmaaGreatDoorV32
import Derived.Test.YtolfcabodiphmaaGreatDoorV30
import Derived.Test.YtolfcabodiphmaaGreatDoorV00
import Derived.Test.YtolfcabodiphmaaGreatDoorV18
import Derived.Test.YtolfcabodiphmaaGreatDoorV20
import Derived.Test.YtolfcabodiphmaaGreatDoorV23
set_option linter.unusedSimpArgs false
set_option linter.unusedVariables false
set_option maxHeartbeats 4000000
set_option maxRecDepth 100000
namespace Go.Proofs.YtolfcabodiphmaaGreatDoor
open Go.Proofs.Tryz
open Go.RowKit Go.Conc
theorem oZ(w:World)(s b:Nat)(hs:w.cell? ⟨s,0,none⟩=some (.pointer (some ⟨b,0,none⟩))):
  Calls Tryz.prog 32 #[.pointer (some ⟨s,0,none⟩)] w (fun e w'=>e=.returned (.pointer (some ⟨b,0,none⟩))∧w'=w):=by
 go_enter func32,ntmps32
 go_wp2_with fail
 go_ret
 exact⟨rfl,rfl⟩
theorem nD(w:World)(s b:Nat)(hs:w.cell? ⟨s,0,none⟩=some (.pointer (some ⟨b,0,none⟩))):
  Calls Tryz.prog 25 #[.pointer (some ⟨s,0,none⟩)] w (fun e w'=>e=.returned (.pointer (some ⟨b,0,none⟩))∧w'=w):=by
 go_enter func25,ntmps25
 go_wp2_with fail
 go_ret
 exact⟨rfl,rfl⟩
theorem ajD(w:World)(s b:Nat)(hs:w.cell? ⟨s,0,none⟩=some (.pointer (some ⟨b,0,none⟩)))(conn:Int)(Q:Int→World→Prop)(hg:Calls Tryz.prog 33 #[.pointer (some ⟨b,0,none⟩),.int .i64 conn] w (fun e w'=>∃ z:Int,e=.returned (.int .i64 z)∧Q z w')):
  Calls Tryz.prog 15 #[.pointer (some ⟨s,0,none⟩),.int .i64 conn] w (fun e w'=>∃ z:Int,e=.returned (.int .i64 z)∧Q z w'):=by
 have HS:=hid hs
 have HG:=hid hg
 clear hs hg
 go_enter func15,ntmps15
 go_wp2_with fail
 refine(oZ _ s b HS.out).mono ?_;rintro e w1 ⟨rfl,rfl⟩
 go_wp2_with fail
 refine HG.out.mono ?_;rintro e w2 ⟨z,rfl,hQ⟩
 have HQ:=hid hQ
 clear hQ
 go_wp2_with fail
 go_ret
 exact⟨z,rfl,HQ.out⟩
theorem acp(w:World)(s b:Nat)(hs:w.cell? ⟨s,0,none⟩=some (.pointer (some ⟨b,0,none⟩)))(Q:World→Prop)(hg:Calls Tryz.prog 37 #[.pointer (some ⟨b,0,none⟩)] w (fun e w'=>e=.returned (.tuple #[])∧Q w')):
  Calls Tryz.prog 20 #[.pointer (some ⟨s,0,none⟩)] w (fun e w'=>e=.returned (.tuple #[])∧Q w'):=by
 have HS:=hid hs
 have HG:=hid hg
 clear hs hg
 go_enter func20,ntmps20
 go_wp2_with fail
 refine(oZ _ s b HS.out).mono ?_;rintro e w1 ⟨rfl,rfl⟩
 go_wp2_with fail
 refine HG.out.mono ?_;rintro e w2 ⟨rfl,hQ⟩
 have HQ:=hid hQ
 clear hQ
 go_wp2_with fail
 go_end0
 exact⟨rfl,HQ.out⟩
theorem Sm(w:World)(s b:Nat)(hs:w.cell? ⟨s,0,none⟩=some (.pointer (some ⟨b,0,none⟩)))(conn:Int)(fa:Option Addr)(fl fc:Nat)(Q:Int→World→Prop)(hg:Calls Tryz.prog 61 #[.pointer (some ⟨b,0,none⟩),.int .i64 conn,.slice fa fl fc] w (fun e w'=>∃ z:Int,e=.returned (.int .i64 z)∧Q z w')):
  Calls Tryz.prog 41 #[.pointer (some ⟨s,0,none⟩),.int .i64 conn,.slice fa fl fc] w (fun e w'=>∃ z:Int,e=.returned (.int .i64 z)∧Q z w'):=by
 have HS:=hid hs
 have HG:=hid hg
 clear hs hg
 go_enter func41,ntmps41
 go_wp2_with fail
 refine(oZ _ s b HS.out).mono ?_;rintro e w1 ⟨rfl,rfl⟩
 go_wp2_with fail
 refine HG.out.mono ?_;rintro e w2 ⟨z,rfl,hQ⟩
 have HQ:=hid hQ
 clear hQ
 go_wp2_with fail
 go_ret
 exact⟨z,rfl,HQ.out⟩
theorem afN(w:World)(s b:Nat)(hs:w.cell? ⟨s,0,none⟩=some (.pointer (some ⟨b,0,none⟩)))(Q:Value→World→Prop)(hg:Calls Tryz.prog 39 #[.pointer (some ⟨b,0,none⟩)] w (fun e w'=>∃ (a:Option Addr) (n c:Nat),e=.returned (.slice a n c)∧Q (.slice a n c) w')):
  Calls Tryz.prog 22 #[.pointer (some ⟨s,0,none⟩)] w (fun e w'=>∃ (a:Option Addr) (n c:Nat),e=.returned (.slice a n c)∧Q (.slice a n c) w'):=by
 have HS:=hid hs
 have HG:=hid hg
 clear hs hg
 go_enter func22,ntmps22
 go_wp2_with fail
 refine(oZ _ s b HS.out).mono ?_;rintro e w1 ⟨rfl,rfl⟩
 go_wp2_with fail
 refine HG.out.mono ?_;rintro e w2 ⟨a,n,c,rfl,hQ⟩
 have HQ:=hid hQ
 clear hQ
 go_wp2_with fail
 go_ret
 exact⟨a,n,c,rfl,HQ.out⟩
theorem ajE(w:World)(s b:Nat)(hs:w.cell? ⟨s,0,none⟩=some (.pointer (some ⟨b,0,none⟩)))(conn:Int)(Q:Int→World→Prop)(hg:Calls Tryz.prog 34 #[.pointer (some ⟨b,0,none⟩),.int .i64 conn] w (fun e w'=>∃ z:Int,e=.returned (.int .i64 z)∧Q z w')):
  Calls Tryz.prog 16 #[.pointer (some ⟨s,0,none⟩),.int .i64 conn] w (fun e w'=>∃ z:Int,e=.returned (.int .i64 z)∧Q z w'):=by
 have HS:=hid hs
 have HG:=hid hg
 clear hs hg
 go_enter func16,ntmps16
 go_wp2_with fail
 refine(nD _ s b HS.out).mono ?_;rintro e w1 ⟨rfl,rfl⟩
 go_wp2_with fail
 refine HG.out.mono ?_;rintro e w2 ⟨z,rfl,hQ⟩
 have HQ:=hid hQ
 clear hQ
 go_wp2_with fail
 go_ret
 exact⟨z,rfl,HQ.out⟩
theorem acr(w:World)(s b:Nat)(hs:w.cell? ⟨s,0,none⟩=some (.pointer (some ⟨b,0,none⟩)))(Q:World→Prop)(hg:Calls Tryz.prog 38 #[.pointer (some ⟨b,0,none⟩)] w (fun e w'=>e=.returned (.tuple #[])∧Q w')):
  Calls Tryz.prog 21 #[.pointer (some ⟨s,0,none⟩)] w (fun e w'=>e=.returned (.tuple #[])∧Q w'):=by
 have HS:=hid hs
 have HG:=hid hg
 clear hs hg
 go_enter func21,ntmps21
 go_wp2_with fail
 refine(nD _ s b HS.out).mono ?_;rintro e w1 ⟨rfl,rfl⟩
 go_wp2_with fail
 refine HG.out.mono ?_;rintro e w2 ⟨rfl,hQ⟩
 have HQ:=hid hQ
 clear hQ
 go_wp2_with fail
 go_end0
 exact⟨rfl,HQ.out⟩
theorem Sr(w:World)(s b:Nat)(hs:w.cell? ⟨s,0,none⟩=some (.pointer (some ⟨b,0,none⟩)))(conn:Int)(fa:Option Addr)(fl fc:Nat)(Q:Int→World→Prop)(hg:Calls Tryz.prog 62 #[.pointer (some ⟨b,0,none⟩),.int .i64 conn,.slice fa fl fc] w (fun e w'=>∃ z:Int,e=.returned (.int .i64 z)∧Q z w')):
  Calls Tryz.prog 42 #[.pointer (some ⟨s,0,none⟩),.int .i64 conn,.slice fa fl fc] w (fun e w'=>∃ z:Int,e=.returned (.int .i64 z)∧Q z w'):=by
 have HS:=hid hs
 have HG:=hid hg
 clear hs hg
 go_enter func42,ntmps42
 go_wp2_with fail
 refine(nD _ s b HS.out).mono ?_;rintro e w1 ⟨rfl,rfl⟩
 go_wp2_with fail
 refine HG.out.mono ?_;rintro e w2 ⟨z,rfl,hQ⟩
 have HQ:=hid hQ
 clear hQ
 go_wp2_with fail
 go_ret
 exact⟨z,rfl,HQ.out⟩
theorem afO(w:World)(s b:Nat)(hs:w.cell? ⟨s,0,none⟩=some (.pointer (some ⟨b,0,none⟩)))(Q:Value→World→Prop)(hg:Calls Tryz.prog 39 #[.pointer (some ⟨b,0,none⟩)] w (fun e w'=>∃ (a:Option Addr) (n c:Nat),e=.returned (.slice a n c)∧Q (.slice a n c) w')):
  Calls Tryz.prog 24 #[.pointer (some ⟨s,0,none⟩)] w (fun e w'=>∃ (a:Option Addr) (n c:Nat),e=.returned (.slice a n c)∧Q (.slice a n c) w'):=by
 have HS:=hid hs
 have HG:=hid hg
 clear hs hg
 go_enter func24,ntmps24
 go_wp2_with fail
 refine(nD _ s b HS.out).mono ?_;rintro e w1 ⟨rfl,rfl⟩
 go_wp2_with fail
 refine HG.out.mono ?_;rintro e w2 ⟨a,n,c,rfl,hQ⟩
 have HQ:=hid hQ
 clear hQ
 go_wp2_with fail
 go_ret
 exact⟨a,n,c,rfl,HQ.out⟩
theorem acs(w:World)(s b:Nat)(hs:w.cell? ⟨s,0,none⟩=some (.pointer (some ⟨b,0,none⟩)))(t:ByteArray)(u:ByteArray)(Q:Int→Int→World→Prop)(hg:Calls Tryz.prog 36 #[.pointer (some ⟨b,0,none⟩),.string t,.string u] w (fun e w'=>∃ n z:Int,e=.returned (.tuple #[.int .i64 n,.int .i64 z])∧Q n z w')):
  Calls Tryz.prog 18 #[.pointer (some ⟨s,0,none⟩),.string t,.string u] w (fun e w'=>∃ n z:Int,e=.returned (.tuple #[.int .i64 n,.int .i64 z])∧Q n z w'):=by
 have HS:=hid hs
 have HG:=hid hg
 clear hs hg
 go_enter func18,ntmps18
 go_wp2_with fail
 refine(oZ _ s b HS.out).mono ?_;rintro e w1 ⟨rfl,rfl⟩
 go_wp2_with fail
 refine HG.out.mono ?_;rintro e w2 ⟨n,z,rfl,hQ⟩
 have HQ:=hid hQ
 clear hQ
 go_wp2_with fail
 go_ret2
 exact⟨n,z,rfl,HQ.out⟩
theorem Aq(w:World)(s b:Nat)(hs:w.cell? ⟨s,0,none⟩=some (.pointer (some ⟨b,0,none⟩)))(id:Int)(t:ByteArray)(Q:Int→World→Prop)(hg:Calls Tryz.prog 65 #[.pointer (some ⟨b,0,none⟩),.int .i64 id,.string t] w (fun e w'=>∃ z:Int,e=.returned (.int .i64 z)∧Q z w')):
  Calls Tryz.prog 45 #[.pointer (some ⟨s,0,none⟩),.int .i64 id,.string t] w (fun e w'=>∃ z:Int,e=.returned (.int .i64 z)∧Q z w'):=by
 have HS:=hid hs
 have HG:=hid hg
 clear hs hg
 go_enter func45,ntmps45
 go_wp2_with fail
 refine(nD _ s b HS.out).mono ?_;rintro e w1 ⟨rfl,rfl⟩
 go_wp2_with fail
 refine HG.out.mono ?_;rintro e w2 ⟨z,rfl,hQ⟩
 have HQ:=hid hQ
 clear hQ
 go_wp2_with fail
 go_ret
 exact⟨z,rfl,HQ.out⟩
theorem Sv(w:World)(s b:Nat)(hs:w.cell? ⟨s,0,none⟩=some (.pointer (some ⟨b,0,none⟩)))(Q:World→Prop)(hg:Calls Tryz.prog 26 #[.pointer (some ⟨b,0,none⟩)] w (fun e w'=>e=.returned (.tuple #[])∧Q w')):
  Calls Tryz.prog 10 #[.pointer (some ⟨s,0,none⟩)] w (fun e w'=>e=.returned (.tuple #[])∧Q w'):=by
 have HS:=hid hs
 have HG:=hid hg
 clear hs hg
 go_enter func10,ntmps10
 go_wp2_with fail
 refine(nD _ s b HS.out).mono ?_;rintro e w1 ⟨rfl,rfl⟩
 go_wp2_with fail
 refine HG.out.mono ?_;rintro e w2 ⟨rfl,hQ⟩
 have HQ:=hid hQ
 clear hQ
 go_wp2_with fail
 go_end0
 exact⟨rfl,HQ.out⟩
theorem gG.resv{lo:Nat}{w w5 w6:World}{g g':CG}{p:CP}{b:Nat}(h:gG lo w g p w5 g')(hc:aG (fun k=>k=b) w5 w6)(hb:w.heap.size≤b)(hn:¬ Key g'.res b):gG lo w g p w6 g' :=
 ⟨⟨h.cli.has.keep hc (fun k hk e=>hn (e ▸ hk)),h.cli.ra,h.cli.rs,h.cli.rc,h.cli.rv⟩,h.st,⟨h.grow.c.trans hc (fun i hi e=>by have e:i=b:=e;omega),h.grow.k⟩,h.b,h.iv,h.cfg⟩
theorem KG{w:World}{b:Nat}{T:TypeId}{x0 x1 x2:Value}(h:aK w b T [x0,x1,x2])(v0 v1 v2:Value):aK (((w.setCell ⟨b,0,none⟩ v0).setCell ⟨b,1,none⟩ v1).setCell ⟨b,2,none⟩ v2) b T [v0,v1,v2]:=((h.set 0 v0).set 1 v1).set 2 v2
theorem KH(w:World)(b:Nat)(v0 v1 v2:Value):aG (fun k=>k=b) w (((w.setCell ⟨b,0,none⟩ v0).setCell ⟨b,1,none⟩ v1).setCell ⟨b,2,none⟩ v2):=(((aG.refl (fun k=>k=b) w).setCell ⟨b,0,none⟩ _ (fun _=>rfl)).setCell ⟨b,1,none⟩ _ (fun _=>rfl)).setCell ⟨b,2,none⟩ _ (fun _=>rfl)
theorem WA{lo:Nat}{w:World}{g:CG}(h:Cli lo w g)(s:Nat)(hs:w.cell? ⟨s,0,none⟩=some (.pointer (some ⟨g.b,0,none⟩)))(hsl:s<w.heap.size)(num:Int)(k0:Int)(v1 v2:ByteArray)(z:Int){q:CP}(hg:∀ w0,Below w.heap.size w w0→Calls Tryz.prog 94 #[.pointer (some ⟨g.b,0,none⟩),.int .i64 num] w0 (fun e w'=>e=.returned (.tuple #[.agg #[.int .i64 k0,.string v1,.string v2],.int .i64 z])∧∃ g',gG lo w0 g q w' g')):
  Calls Tryz.prog 68 #[.pointer (some ⟨s,0,none⟩),.int .i64 num] w (fun e w'=>e=.returned (.tuple #[.agg #[.int .i64 k0,.string v1,.string v2],.int .i64 z])∧∃ g',gG lo w g q w' g'):=by
 have hb0:Below w.heap.size w (w.alloc (.cells #[.int .i64 0,.string ⟨#[]⟩,.string ⟨#[]⟩] 127)):=(Below.refl _ _).alloc (Nat.le_refl _) _
 have hB0:aK (w.alloc (.cells #[.int .i64 0,.string ⟨#[]⟩,.string ⟨#[]⟩] 127)) w.heap.size 127 [.int .i64 0,.string ⟨#[]⟩,.string ⟨#[]⟩]:=heap_alloc_new w _
 have hs0:=(hb0.cell (p:=⟨s,0,none⟩) hsl).trans hs
 obtain⟨w0,hw0⟩:∃ w0,w.alloc (.cells #[.int .i64 0,.string ⟨#[]⟩,.string ⟨#[]⟩] 127)=w0:=⟨_,rfl⟩
 rw[hw0] at hb0 hB0 hs0
 have HS:=hid hs0
 have HG:=hid (hg w0 hb0)
 have HB0:=hid hB0
 have Hb0:=hid hb0
 have Aj:=hid (show ¬ Key g.res w.heap.size from h.lM)
 clear h hs hs0 hg hB0 hb0
 go_enter func68,ntmps68
 go_wp2_with fail
 refine(oZ _ s g.b HS.out).mono ?_;rintro e w1 ⟨rfl,rfl⟩
 go_wp2_with fail
 refine HG.out.mono ?_;rintro e w2 ⟨rfl,g2,h2⟩
 obtain⟨hB2,hn2⟩:=h2.blk HB0.out Aj.out
 have e0:w2.cell? ⟨w.heap.size,0,none⟩=some (.int .i64 0):=hB2.cell 0
 have e1:w2.cell? ⟨w.heap.size,1,none⟩=some (.string ⟨#[]⟩):=hB2.cell 1
 have e2:w2.cell? ⟨w.heap.size,2,none⟩=some (.string ⟨#[]⟩):=hB2.cell 2
 have f0:=hB2.frozen 0
 have f1:=hB2.frozen 1
 have f2:=hB2.frozen 2
 have HL:=hid (qm _ _ _ _ _ (KG hB2 (.int .i64 k0) (.string v1) (.string v2)))
 have HT:=hid ((h2.before Hb0.out).resv (KH w2 w.heap.size (.int .i64 k0) (.string v1) (.string v2)) (Nat.le_refl _) hn2)
 clear hB2 hn2 h2
 go_wp2_with fail
 (try simp only[Exit.inBlock,Exit.then])
 refine⟨rfl,.tuple #[.agg #[.int .i64 k0,.string v1,.string v2],.int .i64 z],?_,rfl,g2,HT.out⟩
 rw[results_cell_tmp rfl]
 have:=HL.out
 simp[asAddr,this]
theorem WB{lo:Nat}{w:World}{g:SG}(h:Srv lo w g)(s:Nat)(hs:w.cell? ⟨s,0,none⟩=some (.pointer (some ⟨g.b,0,none⟩)))(hsl:s<w.heap.size)(k0:Int)(v1 v2:ByteArray)(b3:Bool){q:SP}(hg:∀ w0,Below w.heap.size w w0→Calls Tryz.prog 44 #[.pointer (some ⟨g.b,0,none⟩)] w0 (fun e w'=>e=.returned (.tuple #[.agg #[.int .i64 k0,.string v1,.string v2],.bool b3])∧∃ g',dV lo w0 g q w' g')):
  Calls Tryz.prog 27 #[.pointer (some ⟨s,0,none⟩)] w (fun e w'=>e=.returned (.tuple #[.agg #[.int .i64 k0,.string v1,.string v2],.bool b3])∧∃ g',dV lo w g q w' g'):=by
 have hb0:Below w.heap.size w (w.alloc (.cells #[.int .i64 0,.string ⟨#[]⟩,.string ⟨#[]⟩] 70)):=(Below.refl _ _).alloc (Nat.le_refl _) _
 have hB0:aK (w.alloc (.cells #[.int .i64 0,.string ⟨#[]⟩,.string ⟨#[]⟩] 70)) w.heap.size 70 [.int .i64 0,.string ⟨#[]⟩,.string ⟨#[]⟩]:=heap_alloc_new w _
 have hs0:=(hb0.cell (p:=⟨s,0,none⟩) hsl).trans hs
 obtain⟨w0,hw0⟩:∃ w0,w.alloc (.cells #[.int .i64 0,.string ⟨#[]⟩,.string ⟨#[]⟩] 70)=w0:=⟨_,rfl⟩
 rw[hw0] at hb0 hB0 hs0
 have HS:=hid hs0
 have HG:=hid (hg w0 hb0)
 have HB0:=hid hB0
 have Hb0:=hid hb0
 have Aj:=hid (show ¬ Key g.res w.heap.size from h.lM)
 clear h hs hs0 hg hB0 hb0
 go_enter func27,ntmps27
 go_wp2_with fail
 refine(nD _ s g.b HS.out).mono ?_;rintro e w1 ⟨rfl,rfl⟩
 go_wp2_with fail
 refine HG.out.mono ?_;rintro e w2 ⟨rfl,g2,h2⟩
 obtain⟨hB2,hn2⟩:=h2.blk HB0.out Aj.out
 have e0:w2.cell? ⟨w.heap.size,0,none⟩=some (.int .i64 0):=hB2.cell 0
 have e1:w2.cell? ⟨w.heap.size,1,none⟩=some (.string ⟨#[]⟩):=hB2.cell 1
 have e2:w2.cell? ⟨w.heap.size,2,none⟩=some (.string ⟨#[]⟩):=hB2.cell 2
 have f0:=hB2.frozen 0
 have f1:=hB2.frozen 1
 have f2:=hB2.frozen 2
 have HL:=hid (oq _ _ _ _ _ (KG hB2 (.int .i64 k0) (.string v1) (.string v2)))
 have HT:=hid ((h2.before Hb0.out).resv (KH w2 w.heap.size (.int .i64 k0) (.string v1) (.string v2)) (Nat.le_refl _) hn2)
 clear hB2 hn2 h2
 go_wp2_with fail
 (try simp only[Exit.inBlock,Exit.then])
 refine⟨rfl,.tuple #[.agg #[.int .i64 k0,.string v1,.string v2],.bool b3],?_,rfl,g2,HT.out⟩
 rw[results_cell_tmp rfl]
 have:=HL.out
 simp[asAddr,this]
structure O5 where
 fv:Value
 n:Nat
 p:aP
abbrev afP(m:O5):List Value:=[.int .i64 m.n,m.fv]
def Zh(l:List O5):List Value:=l.flatMap afP
def O5.bytes(m:O5):List UInt8:=bT fU (bJ m.p)
def O5.res(m:O5):List fM:=dh 5 1 m.fv m.bytes.length (m.bytes.map aZ)
def O5.k(m:O5):PkP:=⟨m.n,m.p⟩
abbrev lU(x:uq):List Value:=[.string x.name,.string x.value,.string x.answer,.int .i64 x.id,.int .i64 x.ended]
def sH(l:List uq):List Value:=l.flatMap lU
abbrev afQ(x:StW):List Value:=[.int .i64 x.topic,.int .i64 x.start,.int .i64 x.given,.int .i64 x.ended,.bool x.late]
def afR(l:List StW):List Value:=l.flatMap afQ
structure WG where
 b:Nat
 sb:Nat
 cb:Nat
 sg:SG
 cg:CG
 W:Nat
 D:Nat
 R:Nat
 conn:Nat
 o9:Nat
 qU:Nat
 tsv:Value
 toS:List O5
 tcv:Value
 toC:List O5
 vv0:Value
 v0:List ByteArray
 vv1:Value
 v1:List ByteArray
 vv2:Value
 v2:List ByteArray
 d0:Bool
 d1:Bool
 d2:Bool
 stv:Value
 streams:List StW
 kX:Value
 calls:List uq
 came:Nat
 bK:Nat
 bC:Nat
 cause:Bool
 aaX:Bool
namespace WG
def st(g:WG):WP:=⟨g.sg.st,g.cg.st,g.W,g.D,g.R,g.conn,g.o9,g.qU,g.toS.map O5.k,g.toC.map O5.k,g.v0,g.v1,g.v2,g.d0,g.d1,g.d2,g.streams,g.calls,g.came,g.bK,g.bC,g.cause,g.aaX⟩
abbrev cells(g:WG):List Value:=[aJ g.sb,aJ g.cb,.int .i64 g.W,.int .i64 g.D,.int .i64 g.R,.int .i64 g.conn,.int .i64 g.o9,.int .i64 g.qU,g.tsv,g.tcv,g.vv0,g.vv1,g.vv2,.bool g.d0,.bool g.d1,.bool g.d2,g.stv,g.kX,.int .i64 g.came,.int .i64 g.bK,.int .i64 g.bC,.bool g.cause,.bool g.aaX]
def o7(g:WG):List fM:=[iO g.b 39 g.cells]
def dX(g:WG):List fM:=[iO g.sb 79 [aJ g.sg.b]]
def aU(g:WG):List fM:=[iO g.cb 84 [aJ g.cg.b]]
def WC(g:WG):List fM:=dh 66 2 g.tsv g.toS.length (Zh g.toS)++g.toS.flatMap O5.res
def WE(g:WG):List fM:=dh 66 2 g.tcv g.toC.length (Zh g.toC)++g.toC.flatMap O5.res
def WH(g:WG):List fM:=dh 9 1 g.vv0 g.v0.length (lg g.v0)++(dh 9 1 g.vv1 g.v1.length (lg g.v1)++dh 9 1 g.vv2 g.v2.length (lg g.v2))
def rowT(g:WG):List fM:=dh 75 5 g.stv g.streams.length (afR g.streams)
def rowA(g:WG):List fM:=dh 48 5 g.kX g.calls.length (sH g.calls)
def rest(g:WG):List fM:=g.WC++(g.WE++(g.WH++(g.rowT++g.rowA)))
def res(g:WG):List fM:=g.o7++(g.dX++(g.aU++(g.sg.res++(g.cg.res++g.rest))))
end WG
structure lI(lo:Nat)(w:World)(g:WG):Prop where
 has:Has lo w g.res
 srv:Srv lo w g.sg
 cli:Cli lo w g.cg
 rs:eX 2 g.tsv g.toS.length (Zh g.toS)
 rc:eX 2 g.tcv g.toC.length (Zh g.toC)
 fs:∀ m∈g.toS,eX 1 m.fv m.bytes.length (m.bytes.map aZ)
 fc:∀ m∈g.toC,eX 1 m.fv m.bytes.length (m.bytes.map aZ)
 r0:eX 1 g.vv0 g.v0.length (lg g.v0)
 r1:eX 1 g.vv1 g.v1.length (lg g.v1)
 r2:eX 1 g.vv2 g.v2.length (lg g.v2)
 rt:eX 5 g.stv g.streams.length (afR g.streams)
 ra:eX 5 g.kX g.calls.length (sH g.calls)
 vM:g.sg.W=g.W∧g.sg.D=g.D∧g.sg.R=g.R
 zX:g.cg.W=g.W∧g.cg.D=g.D∧g.cg.R=g.R
theorem lI.blk{lo:Nat}{w:World}{g:WG}(h:lI lo w g):aK w g.b 39 g.cells:=h.has.blk (List.mem_append_left _ (List.mem_singleton.2 rfl))
theorem lI.dX{lo:Nat}{w:World}{g:WG}(h:lI lo w g):aK w g.sb 79 [aJ g.sg.b]:=h.has.blk (by unfold WG.res WG.dX;simp)
theorem lI.aU{lo:Nat}{w:World}{g:WG}(h:lI lo w g):aK w g.cb 84 [aJ g.cg.b]:=h.has.blk (by unfold WG.res WG.aU;simp)
theorem lI.Oa{lo:Nat}{w:World}{g:WG}(h:lI lo w g):lo≤g.b:=(h.has.lt ⟨_,List.mem_append_left _ (List.mem_singleton.2 rfl),rfl⟩).1
theorem lI.below{lo:Nat}{w w':World}{g:WG}(h:lI lo w g)(hb:Below w.heap.size w w'):lI lo w' g:=⟨h.has.below hb,h.srv.below hb,h.cli.below hb,h.rs,h.rc,h.fs,h.fc,h.r0,h.r1,h.r2,h.rt,h.ra,h.vM,h.zX⟩
theorem lI.drew{lo:Nat}{w:World}{g:WG}(h:lI lo w g):lI lo w.drew g:=h.below (Below.refl _ _).drew
theorem lI.lM{lo:Nat}{w:World}{g:WG}(h:lI lo w g):¬ Key g.res w.heap.size:=fun hk=>by have:=(h.has.lt hk).2;omega
structure mF(lo:Nat)(w:World)(g:WG)(p:WP)(w':World)(g':WG):Prop where
 wld:lI lo w' g'
 st:g'.st=p
 grow:Grow w g.res w' g'.res
 b:g'.b=g.b
 iv:g'.cg.iv=g.cg.iv∧g'.sg.iv=g.sg.iv
theorem mF.refl{lo:Nat}{w w':World}{g:WG}(h:lI lo w g)(hb:Below w.heap.size w w'):mF lo w g g.st w' g:=⟨h.below hb,rfl,Grow.of_below hb,rfl,rfl,rfl⟩
theorem mF.trans{lo:Nat}{w w1 w2:World}{g g1 g2:WG}{p1 p2:WP}(h:mF lo w g p1 w1 g1)(k:mF lo w1 g1 p2 w2 g2):mF lo w g p2 w2 g2:=⟨k.wld,k.st,h.grow.trans k.grow,k.b.trans h.b,k.iv.1.trans h.iv.1,k.iv.2.trans h.iv.2⟩
theorem mF.below{lo:Nat}{w w1 w2:World}{g g1:WG}{p1:WP}(h:mF lo w g p1 w1 g1)(hb:Below w1.heap.size w1 w2):mF lo w g p1 w2 g1:=⟨h.wld.below hb,h.st,h.grow.below hb,h.b,h.iv⟩
theorem mF.before{lo:Nat}{w w0 w1:World}{g g1:WG}{p1:WP}(h:mF lo w0 g p1 w1 g1)(hb:Below w.heap.size w w0):mF lo w g p1 w1 g1:=⟨h.wld,h.st,(Grow.of_below hb).trans h.grow,h.b,h.iv⟩
theorem mF.same{lo:Nat}{w w':World}{g g':WG}{p:WP}(h:mF lo w g p w' g'):mF lo w g g'.st w' g':=⟨h.wld,rfl,h.grow,h.b,h.iv⟩
theorem mF.blk{lo:Nat}{w w':World}{g g':WG}{p:WP}(h:mF lo w g p w' g'){b:Nat}{T:TypeId}{xs:List Value}(hB:aK w b T xs)(hn:¬ Key g.res b):aK w' b T xs∧¬ Key g'.res b :=
 ⟨hB.dB h.grow.c hn,fun hk=>by
  rcases h.grow.k b hk with e | e
  ·exact hn e
  ·have:=hB.lt
   omega⟩
theorem lI.oL{lo:Nat}{w w':World}{g:WG}{qP:CG}{p:CP}(h:lI lo w g)(hc:gG lo w g.cg p w' qP):mF lo w g { g.st with c:=p } w' { g with cg:=qP }:=by
 have p1:g.res.Perm (g.cg.res++(g.sg.res++(g.o7++(g.dX++(g.aU++g.rest))))):=aY (fun p=>by unfold WG.res;simp only[aH];omega)
 have e:({ g with cg:=qP }:WG).aU=g.aU:=by unfold WG.aU;rw[show ({ g with cg:=qP }:WG).cg.b=g.cg.b from hc.b]
 have p2:(qP.res++(g.sg.res++(g.o7++(g.dX++(g.aU++g.rest))))).Perm ({ g with cg:=qP }:WG).res:=aY (fun p=>by
  unfold WG.res
  rw[e]
  show _=cnt p (g.o7++(g.dX++(g.aU++(g.sg.res++(qP.res++g.rest)))))
  simp only[aH];omega)
 have hh:=(h.has.perm p1).swap hc.cli.has hc.grow
 have hS:Srv lo w' g.sg:=⟨(aA.1 (aA.1 hh).2.1).1,h.srv.rt,h.srv.tp,h.srv.ss,h.srv.rw⟩
 exact⟨⟨hh.perm p2,hS,hc.cli,h.rs,h.rc,h.fs,h.fc,h.r0,h.r1,h.r2,h.rt,h.ra,h.vM,⟨hc.cfg.1.trans h.zX.1,hc.cfg.2.1.trans h.zX.2.1,hc.cfg.2.2.trans h.zX.2.2⟩⟩,by unfold WG.st;rw[← hc.st],hc.grow.swap.perm p1.symm p2,rfl,hc.iv,rfl⟩
theorem lI.lK{lo:Nat}{w w':World}{g:WG}{DU:SG}{p:SP}(h:lI lo w g)(hc:dV lo w g.sg p w' DU):mF lo w g { g.st with s:=p } w' { g with sg:=DU }:=by
 have p1:g.res.Perm (g.sg.res++(g.cg.res++(g.o7++(g.dX++(g.aU++g.rest))))):=aY (fun p=>by unfold WG.res;simp only[aH];omega)
 have e:({ g with sg:=DU }:WG).dX=g.dX:=by unfold WG.dX;rw[show ({ g with sg:=DU }:WG).sg.b=g.sg.b from hc.b]
 have p2:(DU.res++(g.cg.res++(g.o7++(g.dX++(g.aU++g.rest))))).Perm ({ g with sg:=DU }:WG).res:=aY (fun p=>by
  unfold WG.res
  rw[e]
  show _=cnt p (g.o7++(g.dX++(g.aU++(DU.res++(g.cg.res++g.rest)))))
  simp only[aH];omega)
 have hh:=(h.has.perm p1).swap hc.srv.has hc.grow
 have hC:Cli lo w' g.cg:=⟨(aA.1 (aA.1 hh).2.1).1,h.cli.ra,h.cli.rs,h.cli.rc,h.cli.rv⟩
 exact⟨⟨hh.perm p2,hc.srv,hC,h.rs,h.rc,h.fs,h.fc,h.r0,h.r1,h.r2,h.rt,h.ra,⟨hc.cfg.1.trans h.vM.1,hc.cfg.2.1.trans h.vM.2.1,hc.cfg.2.2.trans h.vM.2.2⟩,h.zX⟩,by unfold WG.st;rw[← hc.st],hc.grow.swap.perm p1.symm p2,rfl,rfl,hc.iv⟩
theorem lI.jS{lo:Nat}{w w':World}{g g':WG}(h:lI lo w g)(hc:aG (fun k=>k=g.b) w w')(hB:aK w' g.b 39 g'.cells)(hb:g'.b=g.b)(hsb:g'.sb=g.sb∧g'.cb=g.cb)(hsg:g'.sg=g.sg)(hcg:g'.cg=g.cg)(hcf:g'.W=g.W∧g'.D=g.D∧g'.R=g.R)(hr:g'.tsv=g.tsv∧g'.toS=g.toS∧g'.tcv=g.tcv∧g'.toC=g.toC)(hv:g'.vv0=g.vv0∧g'.v0=g.v0∧g'.vv1=g.vv1∧g'.v1=g.v1∧g'.vv2=g.vv2∧g'.v2=g.v2)(ht:g'.stv=g.stv∧g'.streams=g.streams∧g'.kX=g.kX∧g'.calls=g.calls):mF lo w g g'.st w' g':=by
 have hh:Has lo w' g'.o7:=by unfold WG.o7;rw[hb];exact dH h.Oa hB (by decide)
 have hg:Grow w g.o7 w' g'.o7:=⟨hc.mono (fun i _ hi=>by subst hi;exact Key.one.2 rfl),fun k hk=>Or.inl (by
  have:=Key.one.1 hk
  rw[this]
  exact Key.one.2 hb)⟩
 have e:g'.res=g'.o7++(g.dX++(g.aU++(g.sg.res++(g.cg.res++g.rest)))):=by
  obtain⟨s1,s2⟩:=hsb
  obtain⟨r1,r2,r3,r4⟩:=hr
  obtain⟨v1,v2,v3,v4,v5,v6⟩:=hv
  obtain⟨t1,t2,t3,t4⟩:=ht
  unfold WG.res WG.rest WG.WC WG.WE WG.WH WG.rowT WG.rowA WG.dX WG.aU
  rw[s1,s2,hsg,hcg,r1,r2,r3,r4,v1,v2,v3,v4,v5,v6,t1,t2,t3,t4]
 have hX:=h.has.swap hh hg
 have hS:Srv lo w' g.sg:=⟨(aA.1 (aA.1 (aA.1 (aA.1 hX).2.1).2.1).2.1).1,h.srv.rt,h.srv.tp,h.srv.ss,h.srv.rw⟩
 have hC:Cli lo w' g.cg:=⟨(aA.1 (aA.1 (aA.1 (aA.1 (aA.1 hX).2.1).2.1).2.1).2.1).1,h.cli.ra,h.cli.rs,h.cli.rc,h.cli.rv⟩
 obtain⟨r1,r2,r3,r4⟩:=hr
 obtain⟨v1,v2,v3,v4,v5,v6⟩:=hv
 obtain⟨t1,t2,t3,t4⟩:=ht
 refine⟨⟨by rw[e];exact hX,by rw[hsg];exact hS,by rw[hcg];exact hC,by rw[r1,r2];exact h.rs,by rw[r3,r4];exact h.rc,by rw[r2];exact h.fs,by rw[r4];exact h.fc,by rw[v1,v2];exact h.r0,by rw[v3,v4];exact h.r1,by rw[v5,v6];exact h.r2,by rw[t1,t2];exact h.rt,by rw[t3,t4];exact h.ra,by rw[hsg,hcf.1,hcf.2.1,hcf.2.2];exact h.vM,by rw[hcg,hcf.1,hcf.2.1,hcf.2.2];exact h.zX⟩,rfl,by rw[e];exact hg.swap,hb,by rw[hcg],by rw[hsg]⟩
theorem Zi{lo:Nat}{w:World}{g:WG}(h:lI lo w g)(hlo:lo≤w.heap.size)(O7:vS g.cg.st)(hst:g.bK≤1000000000000)(hD:¬ g.D≤g.bK+1):
  Calls Tryz.prog 8 #[.pointer (some ⟨g.b,0,none⟩),.int .i64 0] w (fun e w'=>e=.returned (.tuple #[])∧∃ g',mF lo w g g.st.jQ w' g'):=by
 have d19:w.cell? ⟨g.b,19,none⟩=some (.int .i64 g.bK):=h.blk.cell 19
 have f19:=h.blk.frozen 19
 have hB1:aK (w.drew.setCell ⟨g.b,19,none⟩ (.int .i64 ((g.bK:Int)+1))) g.b 39 ({ g with bK:=g.bK+1 }:WG).cells:=h.drew.blk.set 19 _
 have hc1:aG (fun k=>k=g.b) w.drew (w.drew.setCell ⟨g.b,19,none⟩ (.int .i64 ((g.bK:Int)+1))):=(aG.refl _ _).setCell _ _ (fun _=>rfl)
 have hT1:=(mF.refl h (Below.refl _ w).drew).trans (h.drew.jS (g':={ g with bK:=g.bK+1 }) hc1 hB1 rfl ⟨rfl,rfl⟩ rfl rfl ⟨rfl,rfl,rfl⟩ ⟨rfl,rfl,rfl,rfl⟩ ⟨rfl,rfl,rfl,rfl,rfl,rfl⟩ ⟨rfl,rfl,rfl,rfl⟩)
 obtain⟨w1,hw1⟩:∃ w1,w.drew.setCell ⟨g.b,19,none⟩ (.int .i64 ((g.bK:Int)+1))=w1:=⟨_,rfl⟩
 rw[hw1] at hB1 hT1
 have k19:w1.cell? ⟨g.b,19,none⟩=some (.int .i64 ((g.bK:Int)+1)):=hB1.cell 19
 have k3:w1.cell? ⟨g.b,3,none⟩=some (.int .i64 g.D):=hB1.cell 3
 have b1:decide ((g.D:Int)≤(g.bK:Int)+1)=false:=by simp;omega
 have b2:decide (g.D≤g.bK+1)=false:=by simp;omega
 have HE:=hid (show g.st.jQ = { ({ g with bK:=g.bK+1 }:WG).st with c:=g.cg.st.tick g.D } by
  show ({ g.st with bK:=g.bK+1,cause:=g.cause||decide (g.D≤g.bK+1),c:=g.cg.st.tick g.D }:WP)=_
  rw[b2]
  simp only[Bool.or_false]
  rfl)
 have HT1:=hid hT1
 have H1:=hid hT1.wld
 clear h hB1 hc1 hT1
 go_enter func8,ntmps8
 go_wp2_with fail
 go_region
 all_goals
  go_wp2_with fail
  go_region
  all_goals
  have hT2:=HT1.out.below (Below.refl _ w1).drew
  obtain⟨w2,hw2⟩:∃ w2,w1.drew=w2:=⟨_,rfl⟩
  rw[hw2] at hT2 ⊢
  have H2:=hid hT2.wld
  have HT2:=hid hT2
  have hz2:=hT2.grow.c.size
  have p1:w2.cell? ⟨g.b,1,none⟩=some (.pointer (some ⟨g.cb,0,none⟩)):=H2.out.blk.cell 1
  have HP:=hid (show w2.cell? ⟨g.cb,0,none⟩=some (.pointer (some ⟨g.cg.b,0,none⟩)) from H2.out.aU.cell 0)
  have HC:=hid (show Calls Tryz.prog 37 #[.pointer (some ⟨g.cg.b,0,none⟩)] w2 (fun e w'=>e=.returned (.tuple #[])∧∃ g',gG lo w2 g.cg (g.cg.st.tick g.D) w' g') by
   have:=(adU H2.out.cli (Nat.le_trans hlo hz2) O7)
   rw[show ({ g with bK:=g.bK+1 }:WG).cg.D=g.D from H2.out.zX.2.1] at this
   exact this)
  clear hT2
  go_wp2_with fail
  refine(acp w2 g.cb g.cg.b HP.out _ HC.out).mono ?_;rintro e w3 ⟨rfl,g3,h3⟩
  have HT3:=hid (HT2.out.trans (H2.out.oL h3))
  clear h3
  go_wp2_with fail
  go_end0
  exact⟨rfl,_,by rw[HE.out];exact HT3.out⟩
theorem ajF{lo:Nat}{w:World}{g:WG}(h:lI lo w g)(hlo:lo≤w.heap.size)(O7:vS g.cg.st)(hcn:g.conn≤1000000000000)(hC:g.cg.had=false∨g.cg.last<((g.conn+1:Nat):Int))(hS:g.sg.had=false∨g.sg.last<((g.conn+1:Nat):Int)):
  Calls Tryz.prog 5 #[.pointer (some ⟨g.b,0,none⟩),.int .i64 0] w (fun e w'=>e=.returned (.bool true)∧∃ g',mF lo w g g.st.up0 w' g'):=by
 have d5:w.cell? ⟨g.b,5,none⟩=some (.int .i64 g.conn):=h.blk.cell 5
 have f5:=h.blk.frozen 5
 have hB1:aK (w.setCell ⟨g.b,5,none⟩ (.int .i64 ((g.conn:Int)+1))) g.b 39 ({ g with conn:=g.conn+1 }:WG).cells:=h.blk.set 5 _
 have hc1:aG (fun k=>k=g.b) w (w.setCell ⟨g.b,5,none⟩ (.int .i64 ((g.conn:Int)+1))):=(aG.refl _ _).setCell _ _ (fun _=>rfl)
 have hT1:=h.jS (g':={ g with conn:=g.conn+1 }) hc1 hB1 rfl ⟨rfl,rfl⟩ rfl rfl ⟨rfl,rfl,rfl⟩ ⟨rfl,rfl,rfl,rfl⟩ ⟨rfl,rfl,rfl,rfl,rfl,rfl⟩ ⟨rfl,rfl,rfl,rfl⟩
 obtain⟨w1,hw1⟩:∃ w1,w.setCell ⟨g.b,5,none⟩ (.int .i64 ((g.conn:Int)+1))=w1:=⟨_,rfl⟩
 rw[hw1] at hB1 hT1
 have k5:w1.cell? ⟨g.b,5,none⟩=some (.int .i64 ((g.conn:Int)+1)):=hB1.cell 5
 have k1:w1.cell? ⟨g.b,1,none⟩=some (.pointer (some ⟨g.cb,0,none⟩)):=hB1.cell 1
 have H1:=hid hT1.wld
 have HT1:=hid hT1
 have hz1:=hT1.grow.c.size
 have jJ:=hid (show w1.drew.cell? ⟨g.cb,0,none⟩=some (.pointer (some ⟨g.cg.b,0,none⟩)) from H1.out.aU.cell 0)
 have wO:=hid (show Calls Tryz.prog 33 #[.pointer (some ⟨g.cg.b,0,none⟩),.int .i64 ((g.conn:Int)+1)] w1.drew (fun e w'=>∃ z:Int,e=.returned (.int .i64 z)∧(z=0∧∃ g',gG lo w1.drew g.cg (g.cg.st.raise ((g.conn+1:Nat):Int)).speak w' g')) by
  refine(aa3 (H1.out.drew.cli) (Nat.le_trans hlo hz1) O7 ((g.conn+1:Nat):Int) hC).mono ?_
  rintro e w' ⟨rfl,hh⟩
  exact⟨0,rfl,rfl,hh⟩)
 have VP:=hid hS
 clear h hB1 hc1 hT1 hC hS
 go_enter func5,ntmps5
 go_wp2_with fail
 go_region_with (go_at_call 15;refine(ajD w1.drew g.cb g.cg.b jJ.out ((g.conn:Int)+1) _ wO.out).mono ?_;rintro e w2 ⟨z,rfl,rfl,Ar,h2⟩)
 all_goals
  have hT2:=(HT1.out.below (Below.refl _ w1).drew).trans (H1.out.drew.oL h2)
  have m5:w2.cell? ⟨g.b,5,none⟩=some (.int .i64 ((g.conn:Int)+1)):=hT2.wld.blk.cell 5
  have m6:w2.cell? ⟨g.b,6,none⟩=some (.int .i64 g.o9):=hT2.wld.blk.cell 6
  have n6:=hT2.wld.blk.frozen 6
  have hB3:aK (w2.setCell ⟨g.b,6,none⟩ (.int .i64 ((g.conn:Int)+1))) g.b 39 ({ g with conn:=g.conn+1,cg:=Ar,o9:=g.conn+1 }:WG).cells:=hT2.wld.blk.set 6 _
  have hc3:aG (fun k=>k=g.b) w2 (w2.setCell ⟨g.b,6,none⟩ (.int .i64 ((g.conn:Int)+1))):=(aG.refl _ _).setCell _ _ (fun _=>rfl)
  have kF:=hT2.trans (hT2.wld.jS (g':={ g with conn:=g.conn+1,cg:=Ar,o9:=g.conn+1 }) hc3 hB3 rfl ⟨rfl,rfl⟩ rfl rfl ⟨rfl,rfl,rfl⟩ ⟨rfl,rfl,rfl,rfl⟩ ⟨rfl,rfl,rfl,rfl,rfl,rfl⟩ ⟨rfl,rfl,rfl,rfl⟩)
  obtain⟨w3,hw3⟩:∃ w3,w2.setCell ⟨g.b,6,none⟩ (.int .i64 ((g.conn:Int)+1))=w3:=⟨_,rfl⟩
  rw[hw3] at hB3 kF
  have q5:w3.cell? ⟨g.b,5,none⟩=some (.int .i64 ((g.conn:Int)+1)):=hB3.cell 5
  have q0:w3.cell? ⟨g.b,0,none⟩=some (.pointer (some ⟨g.sb,0,none⟩)):=hB3.cell 0
  have H3:=hid kF.wld
  have HT3:=hid kF
  have hz3:=kF.grow.c.size
  have iR:=hid (show w3.drew.cell? ⟨g.sb,0,none⟩=some (.pointer (some ⟨g.sg.b,0,none⟩)) from H3.out.dX.cell 0)
  have Ja:=hid (show Calls Tryz.prog 34 #[.pointer (some ⟨g.sg.b,0,none⟩),.int .i64 ((g.conn:Int)+1)] w3.drew (fun e w'=>∃ z:Int,e=.returned (.int .i64 z)∧(z=0∧∃ g',dV lo w3.drew g.sg (g.sg.st.raise ((g.conn+1:Nat):Int)) w' g')) by
   refine(abZ (H3.out.drew.srv) (Nat.le_trans hlo hz3) ((g.conn+1:Nat):Int) VP.out).mono ?_
   rintro e w' ⟨rfl,hh⟩
   exact⟨0,rfl,rfl,hh⟩)
  have HCP:=hid h2.st
  clear hT2 hB3 hc3 kF h2
  go_wp2_with fail
  go_region_with (go_at_call 16;refine(ajE w3.drew g.sb g.sg.b iR.out ((g.conn:Int)+1) _ Ja.out).mono ?_;rintro e w4 ⟨z,rfl,rfl,sg4,h4⟩)
  all_goals
   have DR:=(HT3.out.below (Below.refl _ w3).drew).trans (H3.out.drew.lK h4)
   have r5:w4.cell? ⟨g.b,5,none⟩=some (.int .i64 ((g.conn:Int)+1)):=DR.wld.blk.cell 5
   have r7:w4.cell? ⟨g.b,7,none⟩=some (.int .i64 g.qU):=DR.wld.blk.cell 7
   have s7:=DR.wld.blk.frozen 7
   have Ac:aK (w4.setCell ⟨g.b,7,none⟩ (.int .i64 ((g.conn:Int)+1))) g.b 39 ({ g with conn:=g.conn+1,cg:=Ar,o9:=g.conn+1,sg:=sg4,qU:=g.conn+1 }:WG).cells:=DR.wld.blk.set 7 _
   have hc5:aG (fun k=>k=g.b) w4 (w4.setCell ⟨g.b,7,none⟩ (.int .i64 ((g.conn:Int)+1))):=(aG.refl _ _).setCell _ _ (fun _=>rfl)
   have Xy:=DR.trans (DR.wld.jS (g':={ g with conn:=g.conn+1,cg:=Ar,o9:=g.conn+1,sg:=sg4,qU:=g.conn+1 }) hc5 Ac rfl ⟨rfl,rfl⟩ rfl rfl ⟨rfl,rfl,rfl⟩ ⟨rfl,rfl,rfl,rfl⟩ ⟨rfl,rfl,rfl,rfl,rfl,rfl⟩ ⟨rfl,rfl,rfl,rfl⟩)
   obtain⟨w5,hw5⟩:∃ w5,w4.setCell ⟨g.b,7,none⟩ (.int .i64 ((g.conn:Int)+1))=w5:=⟨_,rfl⟩
   rw[hw5] at Xy
   have OY:=hid Xy
   have uG:=hid h4.st
   clear DR Ac hc5 Xy h4
   go_wp2_with fail
   go_ret
   exact⟨rfl,_,by
    have e:g.st.up0=({ g with conn:=g.conn+1,cg:=Ar,o9:=g.conn+1,sg:=sg4,qU:=g.conn+1 }:WG).st:=by
     unfold WP.up0 WG.st
     simp only[HCP.out,uG.out]
    rw[e]
    exact OY.out⟩
theorem Tryz.infoU8c:(Tryz.prog.info? 5).map (fun i=>(i.zero,i.size,i.bytes))=some (some (.int .u8 0),1,1):=by kernel_rfl
theorem O8(w:World)(fa:Addr)(fc:Nat)(F:List UInt8)(h:Rd w (.slice (some fa) F.length fc) F)(hl:F.length≤100000):
  Calls Tryz.prog 40 #[.slice (some fa) F.length fc,.int .i64 0] w (fun e w'=>∃ a c,e=.returned (.slice a F.length c)∧gZ w' w.heap.size (.slice a F.length c) F∧Below w.heap.size w w'):=by
 have ajH:=hid (show w.ownsRow w.heap.size 5 1 (.slice none 0 0) 0 [] from⟨rfl,Or.inl ⟨rfl,rfl⟩⟩)
 have ajI:=hid (show ∀ j u,(F.map aZ)[j]? = some u→w.cell? (fa.add j)=some u from fun j u hu=>by
  rcases h with⟨e,_⟩ | ⟨a,c,e,hh⟩
  ·cases e
  ·have:fa=a:=Option.some.inj (Value.slice.inj e).1
   subst this
   exact hh j u hu)
 have ajJ:=hid (show ∀ u∈F.map aZ,u.oneCell'=true from fun u hu=>by
  obtain⟨x,_,rfl⟩:=List.mem_map.1 hu
  rfl)
 clear h
 go_enter func40,ntmps40
 go_wp2_with (at_builtin;refine eG _ rfl (.tmp 7) (.tmp 8) 64 5 (.int .u8 0) 1 1 rfl underlying64 Tryz.infoU8c rfl (by decide) (.slice none 0 0) 0 [] w.heap.size rfl ajH.out fa F.length fc (F.map aZ) rfl (by simp) ajI.out ajJ.out F.length (by simp) (F.map aZ) (by simp) (by unfold maxLen;omega) (by omega) (Nat.le_refl _) ?_)
 rintro a' c' w1 hA hg
 have HA:=hid hA
 have HG:=hid (show Below w.heap.size w w1 from⟨hg.g.os,hg.g.tape,hg.g.output,hg.g.size,fun k hk=>hg.g.block k hk (fun e=>by cases e)⟩)
 clear hA hg
 go_wp2_with fail
 go_ret
 exact⟨a',c',rfl,HA.out,HG.out⟩
theorem mF.resv{lo:Nat}{w w5 w6:World}{g g':WG}{p:WP}{F:Nat→Prop}(h:mF lo w g p w5 g')(hc:aG F w5 w6)(hb:∀ k,F k→w.heap.size≤k)(hn:∀ k,F k→¬ Key g'.res k):mF lo w g p w6 g':=by
 have hk:=h.wld.has.keep hc (fun k hk e=>hn k e hk)
 have kS:∀ k,Key g'.sg.res k→Key g'.res k:=fun k hk=>by
  unfold WG.res
  simp only[Key.app]
  exact Or.inr (Or.inr (Or.inr (Or.inl hk)))
 have kC:∀ k,Key g'.cg.res k→Key g'.res k:=fun k hk=>by
  unfold WG.res
  simp only[Key.app]
  exact Or.inr (Or.inr (Or.inr (Or.inr (Or.inl hk))))
 have hS:Srv lo w6 g'.sg:=⟨h.wld.srv.has.keep hc (fun k hk e=>hn k e (kS k hk)),h.wld.srv.rt,h.wld.srv.tp,h.wld.srv.ss,h.wld.srv.rw⟩
 have hC:Cli lo w6 g'.cg:=⟨h.wld.cli.has.keep hc (fun k hk e=>hn k e (kC k hk)),h.wld.cli.ra,h.wld.cli.rs,h.wld.cli.rc,h.wld.cli.rv⟩
 exact⟨⟨hk,hS,hC,h.wld.rs,h.wld.rc,h.wld.fs,h.wld.fc,h.wld.r0,h.wld.r1,h.wld.r2,h.wld.rt,h.wld.ra,h.wld.vM,h.wld.zX⟩,h.st,⟨h.grow.c.trans hc (fun i hi e=>by have:=hb i e;omega),h.grow.k⟩,h.b,h.iv⟩
theorem acu{lo:Nat}{w:World}{g:WG}(h:lI lo w g)(hlo:lo≤w.heap.size)(p:aP)(q:SP)(fa:Addr)(fc:Nat)(FB:List UInt8)(hr:Rd w (.slice (some fa) FB.length fc) FB)(hl:FB.length≤100000)
  (hRc:∀ w2 a c,Below w.heap.size w w2→gZ w2 w.heap.size (.slice a FB.length c) FB→Calls Tryz.prog 62 #[.pointer (some ⟨g.sg.b,0,none⟩),.int .i64 g.qU,.slice a FB.length c] w2 (fun e w'=>e=.returned (.int .i64 0)∧∃ g',dV lo w2 g.sg q w' g')) :
  Calls Tryz.prog 23 #[.pointer (some ⟨g.b,0,none⟩),.int .i64 1,.agg #[.int .i64 g.qU,.slice (some fa) FB.length fc],.int .i64 0] w (fun e w'=>e=.returned (.bool true)∧∃ g',mF lo w g { g.st with bC:=0,s:=q } w' g'):=by
 have hbw0:Below w.heap.size w (w.alloc (.cells #[.int .i64 g.qU,.slice (some fa) FB.length fc] 66)):=(Below.refl _ _).alloc (Nat.le_refl _) _
 have au:aK (w.alloc (.cells #[.int .i64 g.qU,.slice (some fa) FB.length fc] 66)) w.heap.size 66 [.int .i64 g.qU,.slice (some fa) FB.length fc]:=heap_alloc_new w _
 obtain⟨w0,dw⟩:∃ w0,w.alloc (.cells #[.int .i64 g.qU,.slice (some fa) FB.length fc] 66)=w0:=⟨_,rfl⟩
 rw[dw] at hbw0 au
 have e0:w0.cell? ⟨w.heap.size,0,none⟩=some (.int .i64 g.qU):=au.cell 0
 have e1:w0.cell? ⟨w.heap.size,1,none⟩=some (.slice (some fa) FB.length fc):=au.cell 1
 have h0:=h.below hbw0
 have k6:w0.cell? ⟨g.b,6,none⟩=some (.int .i64 g.o9):=h0.blk.cell 6
 have H0:=hid h0
 have Hb0:=hid hbw0
 have HB0:=hid au
 have HR0:=hid (hr.later hbw0)
 have HRc:=hid hRc
 have Aj:=hid (show ¬ Key g.res w.heap.size from h.lM)
 clear h h0 hr hRc hbw0 au
 go_enter func23,ntmps23
 go_wp2_with fail
 refine(O8 w0 fa fc FB HR0.out hl).mono ?_;rintro e w1 ⟨a,c,rfl,Xx,hb1⟩
 have Lh:=hid Xx
 have Hb1:=hid hb1
 have H1:=hid (H0.out.below hb1)
 have HB1:=hid (HB0.out.below hb1)
 have m6:w1.cell? ⟨g.b,6,none⟩=some (.int .i64 g.o9):=H1.out.blk.cell 6
 have m0:w1.cell? ⟨g.b,0,none⟩=some (.pointer (some ⟨g.sb,0,none⟩)):=H1.out.blk.cell 0
 have n0:w1.cell? ⟨w.heap.size,0,none⟩=some (.int .i64 g.qU):=HB1.out.cell 0
 clear Xx hb1
 go_wp2_with fail
 have jJ:=hid (show w1.drew.cell? ⟨g.sb,0,none⟩=some (.pointer (some ⟨g.sg.b,0,none⟩)) from H1.out.dX.cell 0)
 have wO:=hid (show Calls Tryz.prog 62 #[.pointer (some ⟨g.sg.b,0,none⟩),.int .i64 g.qU,.slice a FB.length c] w1.drew (fun e w'=>∃ z:Int,e=.returned (.int .i64 z)∧(z=0∧∃ g',dV lo w1.drew g.sg q w' g')) by
  refine(HRc.out w1.drew a c ((Hb0.out.trans (Hb1.out.mono Hb0.out.size)).drew) ⟨Lh.out.1,by
   rcases Lh.out.2 with e | ⟨gb,cap,cur,e1,e2,e3⟩
   ·exact Or.inl e
   ·exact Or.inr ⟨gb,cap,cur,e1,Nat.le_trans Hb0.out.size e2,e3⟩⟩).mono ?_
  rintro e w' ⟨rfl,hh⟩
  exact⟨0,rfl,rfl,hh⟩)
 go_region_with (go_at_call 42;refine(Sr w1.drew g.sb g.sg.b jJ.out g.qU a FB.length c _ wO.out).mono ?_;rintro e w2 ⟨z,rfl,rfl,sg2,h2⟩)
 all_goals
  have hT2:=(mF.refl H0.out (Hb1.out.drew)).trans (H1.out.drew.lK h2)
  have hkey:∀ k,w0.heap.size≤k→k<w1.heap.size→¬ Key ({ g with sg:=sg2 }:WG).res k:=fun k h1 h3 hk=>by
   rcases hT2.grow.k k hk with e | e
   ·have:=(H0.out.has.lt e).2
    omega
   ·have hz:w0.heap.size≤k:=e
    have hkk:=(H1.out.drew.lK h2).grow.k k hk
    rcases hkk with e | e
    ·have:=(H0.out.has.lt e).2
     omega
    ·have e:w1.heap.size≤k:=e
     omega
  have hrow2:gZ w2 w0.heap.size (.slice a FB.length c) FB:=aC Lh.out (fun k hk=>h2.grow.c.block k (Lh.out.lt k hk).2 (fun e=>by
   have h3:=(H1.out.srv.has.lt e)
   have h4:=(H0.out.srv.has.lt e).2
   have h5:=(Lh.out.lt k hk).1
   omega))
  have m7:w2.cell? ⟨g.b,7,none⟩=some (.int .i64 g.qU):=hT2.wld.blk.cell 7
  have HT2:=hid hT2
  have Ul:=hid hkey
  have HR2:=hid hrow2
  have HLt:=hid (fun k hk=>Lh.out.lt k hk)
  have HPB:=hid ((aK.drew HB1.out).dB h2.grow.c (fun e=>by have h4:=(H0.out.srv.has.lt e).2;exact Aj.out (by unfold WG.res;simp only[Key.app];exact Or.inr (Or.inr (Or.inr (Or.inl e))))))
  have acv:=hid (show w.heap.size<w0.heap.size from HB0.out.lt)
  clear hT2 hkey hrow2 h2
  have HP2:=hid (show aK w2 w.heap.size 66 [.int .i64 g.qU,.slice (some fa) FB.length fc] from HPB.out)
  have ajN:=acv.out
  have b7:((g.qU:Int) != (g.qU:Int))=false:=by simp
  go_wp2_with fail
  go_loopg [12] FB.length (fun gk i wr=>∃ k:Nat,k+gk=FB.length∧i=.int .i64 k∧∃ xs,Hid (wr.ownsRow w0.heap.size 5 1 (.slice a FB.length c) FB.length xs)∧Hid (mF lo w0 g { g.st with s:=q } wr { g with sg:=sg2 })∧Hid (aK wr w.heap.size 66 [.int .i64 g.qU,.slice (some fa) FB.length fc]))
  case atStart=>exact⟨0,by omega,rfl,FB.map aZ,HR2,HT2,HP2⟩
  case round=>
   obtain⟨k,hk,rfl,xs,Fe,Nz,HPw⟩:=hrel
   by_cases hlt:k<FB.length
   ·obtain⟨gb,rfl⟩:∃ gb,a=some ⟨gb,0,none⟩:=by
     rcases Fe.out.2 with⟨e,_⟩ | ⟨gb,cap,cur,e,_⟩
     ·have:=(Value.slice.inj e).2.1
      omega
     ·exact⟨gb,(Value.slice.inj e).1⟩
    have hxl:xs.length=FB.length:=by have:=Fe.out.1;omega
    have hck:wr.cell? ⟨gb,k,none⟩=some (xs[k]'(by omega)):=by
     have:=Fe.out.cells (g:=gb) rfl k (xs[k]'(by omega)) (List.getElem?_eq_getElem (by omega))
     rw[fE _ _ rfl] at this
     simpa using this
    have hfk:=iD Fe.out k
    have fO:(k:Int)<(FB.length:Int):=by omega
    have hgb:=HLt.out gb rfl
    have hc3:aG (fun j=>j=gb) wr (wr.setCell ⟨gb,k,none⟩ (.int .u8 255)):=(aG.refl (fun j=>j=gb) wr).setCell ⟨gb,k,none⟩ _ (fun _=>rfl)
    have HR3:=hid (iE (o:=k) Fe.out (.int .u8 255))
    have HT3:=hid (Nz.out.resv hc3 (fun j e=>by rw[e];exact hgb.1) (fun j e=>by rw[e];exact Ul.out gb hgb.1 hgb.2))
    have iR:=hid (HPw.out.dB hc3 (fun e=>by have e:w.heap.size=gb:=e;omega))
    generalize xs[k]'(by omega)=xk at hck
    obtain⟨w3,hw3⟩:∃ w3,wr.setCell ⟨gb,k,none⟩ (.int .u8 255)=w3:=⟨_,rfl⟩
    rw[hw3] at HR3 HT3 iR
    clear hc3 hgb hxl
    go_wp2_with fail
    go_roundg (gk-1)
    case rel=>exact⟨k+1,by omega,by go_num,_,HR3,HT3,iR⟩
    case measure=>omega
   ·have fO:¬ (k:Int)<(FB.length:Int):=by omega
    have t0:wr.cell? ⟨w.heap.size,0,none⟩=some (.int .i64 g.qU):=HPw.out.cell 0
    have t20:wr.cell? ⟨g.b,20,none⟩=some (.int .i64 g.bC):=Nz.out.wld.blk.cell 20
    have u20:=Nz.out.wld.blk.frozen 20
    have OQ:aK (wr.setCell ⟨g.b,20,none⟩ (.int .i64 0)) g.b 39 ({ g with sg:=sg2,bC:=0 }:WG).cells:=Nz.out.wld.blk.set 20 _
    have hc8:aG (fun j=>j=g.b) wr (wr.setCell ⟨g.b,20,none⟩ (.int .i64 0)):=(aG.refl _ _).setCell _ _ (fun _=>rfl)
    have Dn:=hid ((Nz.out.before Hb0.out).trans (Nz.out.wld.jS (g':={ g with sg:=sg2,bC:=0 }) hc8 OQ rfl ⟨rfl,rfl⟩ rfl rfl ⟨rfl,rfl,rfl⟩ ⟨rfl,rfl,rfl,rfl⟩ ⟨rfl,rfl,rfl,rfl,rfl,rfl⟩ ⟨rfl,rfl,rfl,rfl⟩))
    have HQ8:=hid (show sg2.st=q from congrArg WP.s Nz.out.st)
    clear OQ hc8
    go_wp2_with fail
    go_ret
    exact⟨rfl,_,Dn.out.wld,by show ({ g with sg:=sg2,bC:=0 }:WG).st=_;unfold WG.st;simp only[HQ8.out],Dn.out.grow,Dn.out.b,Dn.out.iv⟩
theorem acw{lo:Nat}{w:World}{g:WG}(h:lI lo w g)(hlo:lo≤w.heap.size)(p:aP)(q:CP)(fa:Addr)(fc:Nat)(FB:List UInt8)(hr:Rd w (.slice (some fa) FB.length fc) FB)(hl:FB.length≤100000)
  (hRc:∀ w2 a c,Below w.heap.size w w2→gZ w2 w.heap.size (.slice a FB.length c) FB→Calls Tryz.prog 61 #[.pointer (some ⟨g.cg.b,0,none⟩),.int .i64 g.o9,.slice a FB.length c] w2 (fun e w'=>e=.returned (.int .i64 0)∧∃ g',gG lo w2 g.cg q w' g')) :
  Calls Tryz.prog 23 #[.pointer (some ⟨g.b,0,none⟩),.int .i64 0,.agg #[.int .i64 g.o9,.slice (some fa) FB.length fc],.int .i64 0] w (fun e w'=>e=.returned (.bool true)∧∃ g',mF lo w g { g.st with bK:=0,c:=q } w' g'):=by
 have hbw0:Below w.heap.size w (w.alloc (.cells #[.int .i64 g.o9,.slice (some fa) FB.length fc] 66)):=(Below.refl _ _).alloc (Nat.le_refl _) _
 have au:aK (w.alloc (.cells #[.int .i64 g.o9,.slice (some fa) FB.length fc] 66)) w.heap.size 66 [.int .i64 g.o9,.slice (some fa) FB.length fc]:=heap_alloc_new w _
 obtain⟨w0,dw⟩:∃ w0,w.alloc (.cells #[.int .i64 g.o9,.slice (some fa) FB.length fc] 66)=w0:=⟨_,rfl⟩
 rw[dw] at hbw0 au
 have e0:w0.cell? ⟨w.heap.size,0,none⟩=some (.int .i64 g.o9):=au.cell 0
 have e1:w0.cell? ⟨w.heap.size,1,none⟩=some (.slice (some fa) FB.length fc):=au.cell 1
 have h0:=h.below hbw0
 have k6:w0.cell? ⟨g.b,6,none⟩=some (.int .i64 g.o9):=h0.blk.cell 6
 have H0:=hid h0
 have Hb0:=hid hbw0
 have HB0:=hid au
 have HR0:=hid (hr.later hbw0)
 have HRc:=hid hRc
 have Aj:=hid (show ¬ Key g.res w.heap.size from h.lM)
 clear h h0 hr hRc hbw0 au
 go_enter func23,ntmps23
 go_wp2_with fail
 refine(O8 w0 fa fc FB HR0.out hl).mono ?_;rintro e w1 ⟨a,c,rfl,Xx,hb1⟩
 have Lh:=hid Xx
 have Hb1:=hid hb1
 have H1:=hid (H0.out.below hb1)
 have HB1:=hid (HB0.out.below hb1)
 have m6:w1.cell? ⟨g.b,6,none⟩=some (.int .i64 g.o9):=H1.out.blk.cell 6
 have m0:w1.cell? ⟨g.b,1,none⟩=some (.pointer (some ⟨g.cb,0,none⟩)):=H1.out.blk.cell 1
 have n0:w1.cell? ⟨w.heap.size,0,none⟩=some (.int .i64 g.o9):=HB1.out.cell 0
 clear Xx hb1
 go_wp2_with fail
 have jJ:=hid (show w1.drew.cell? ⟨g.cb,0,none⟩=some (.pointer (some ⟨g.cg.b,0,none⟩)) from H1.out.aU.cell 0)
 have wO:=hid (show Calls Tryz.prog 61 #[.pointer (some ⟨g.cg.b,0,none⟩),.int .i64 g.o9,.slice a FB.length c] w1.drew (fun e w'=>∃ z:Int,e=.returned (.int .i64 z)∧(z=0∧∃ g',gG lo w1.drew g.cg q w' g')) by
  refine(HRc.out w1.drew a c ((Hb0.out.trans (Hb1.out.mono Hb0.out.size)).drew) ⟨Lh.out.1,by
   rcases Lh.out.2 with e | ⟨gb,cap,cur,e1,e2,e3⟩
   ·exact Or.inl e
   ·exact Or.inr ⟨gb,cap,cur,e1,Nat.le_trans Hb0.out.size e2,e3⟩⟩).mono ?_
  rintro e w' ⟨rfl,hh⟩
  exact⟨0,rfl,rfl,hh⟩)
 go_region_with (go_at_call 41;refine(Sm w1.drew g.cb g.cg.b jJ.out g.o9 a FB.length c _ wO.out).mono ?_;rintro e w2 ⟨z,rfl,rfl,Ar,h2⟩)
 all_goals
  have hT2:=(mF.refl H0.out (Hb1.out.drew)).trans (H1.out.drew.oL h2)
  have hkey:∀ k,w0.heap.size≤k→k<w1.heap.size→¬ Key ({ g with cg:=Ar }:WG).res k:=fun k h1 h3 hk=>by
   rcases hT2.grow.k k hk with e | e
   ·have:=(H0.out.has.lt e).2
    omega
   ·have hz:w0.heap.size≤k:=e
    have hkk:=(H1.out.drew.oL h2).grow.k k hk
    rcases hkk with e | e
    ·have:=(H0.out.has.lt e).2
     omega
    ·have e:w1.heap.size≤k:=e
     omega
  have hrow2:gZ w2 w0.heap.size (.slice a FB.length c) FB:=aC Lh.out (fun k hk=>h2.grow.c.block k (Lh.out.lt k hk).2 (fun e=>by
   have h3:=(H1.out.cli.has.lt e)
   have h4:=(H0.out.cli.has.lt e).2
   have h5:=(Lh.out.lt k hk).1
   omega))
  have HT2:=hid hT2
  have Ul:=hid hkey
  have HR2:=hid hrow2
  have HLt:=hid (fun k hk=>Lh.out.lt k hk)
  have HPB:=hid ((aK.drew HB1.out).dB h2.grow.c (fun e=>by have h4:=(H0.out.cli.has.lt e).2;exact Aj.out (by unfold WG.res;simp only[Key.app];exact Or.inr (Or.inr (Or.inr (Or.inr (Or.inl e)))))))
  have acv:=hid (show w.heap.size<w0.heap.size from HB0.out.lt)
  clear hT2 hkey hrow2 h2
  have HP2:=hid (show aK w2 w.heap.size 66 [.int .i64 g.o9,.slice (some fa) FB.length fc] from HPB.out)
  have ajN:=acv.out
  have b7:((g.o9:Int) != (g.o9:Int))=false:=by simp
  go_wp2_with fail
  go_loopg [12] FB.length (fun gk i wr=>∃ k:Nat,k+gk=FB.length∧i=.int .i64 k∧∃ xs,Hid (wr.ownsRow w0.heap.size 5 1 (.slice a FB.length c) FB.length xs)∧Hid (mF lo w0 g { g.st with c:=q } wr { g with cg:=Ar })∧Hid (aK wr w.heap.size 66 [.int .i64 g.o9,.slice (some fa) FB.length fc]))
  case atStart=>exact⟨0,by omega,rfl,FB.map aZ,HR2,HT2,HP2⟩
  case round=>
   obtain⟨k,hk,rfl,xs,Fe,Nz,HPw⟩:=hrel
   by_cases hlt:k<FB.length
   ·obtain⟨gb,rfl⟩:∃ gb,a=some ⟨gb,0,none⟩:=by
     rcases Fe.out.2 with⟨e,_⟩ | ⟨gb,cap,cur,e,_⟩
     ·have:=(Value.slice.inj e).2.1
      omega
     ·exact⟨gb,(Value.slice.inj e).1⟩
    have hxl:xs.length=FB.length:=by have:=Fe.out.1;omega
    have hck:wr.cell? ⟨gb,k,none⟩=some (xs[k]'(by omega)):=by
     have:=Fe.out.cells (g:=gb) rfl k (xs[k]'(by omega)) (List.getElem?_eq_getElem (by omega))
     rw[fE _ _ rfl] at this
     simpa using this
    have hfk:=iD Fe.out k
    have fO:(k:Int)<(FB.length:Int):=by omega
    have hgb:=HLt.out gb rfl
    have hc3:aG (fun j=>j=gb) wr (wr.setCell ⟨gb,k,none⟩ (.int .u8 255)):=(aG.refl (fun j=>j=gb) wr).setCell ⟨gb,k,none⟩ _ (fun _=>rfl)
    have HR3:=hid (iE (o:=k) Fe.out (.int .u8 255))
    have HT3:=hid (Nz.out.resv hc3 (fun j e=>by rw[e];exact hgb.1) (fun j e=>by rw[e];exact Ul.out gb hgb.1 hgb.2))
    have iR:=hid (HPw.out.dB hc3 (fun e=>by have e:w.heap.size=gb:=e;omega))
    generalize xs[k]'(by omega)=xk at hck
    obtain⟨w3,hw3⟩:∃ w3,wr.setCell ⟨gb,k,none⟩ (.int .u8 255)=w3:=⟨_,rfl⟩
    rw[hw3] at HR3 HT3 iR
    clear hc3 hgb hxl
    go_wp2_with fail
    go_roundg (gk-1)
    case rel=>exact⟨k+1,by omega,by go_num,_,HR3,HT3,iR⟩
    case measure=>omega
   ·have fO:¬ (k:Int)<(FB.length:Int):=by omega
    have t0:wr.cell? ⟨w.heap.size,0,none⟩=some (.int .i64 g.o9):=HPw.out.cell 0
    have t20:wr.cell? ⟨g.b,19,none⟩=some (.int .i64 g.bK):=Nz.out.wld.blk.cell 19
    have u20:=Nz.out.wld.blk.frozen 19
    have OQ:aK (wr.setCell ⟨g.b,19,none⟩ (.int .i64 0)) g.b 39 ({ g with cg:=Ar,bK:=0 }:WG).cells:=Nz.out.wld.blk.set 19 _
    have hc8:aG (fun j=>j=g.b) wr (wr.setCell ⟨g.b,19,none⟩ (.int .i64 0)):=(aG.refl _ _).setCell _ _ (fun _=>rfl)
    have Dn:=hid ((Nz.out.before Hb0.out).trans (Nz.out.wld.jS (g':={ g with cg:=Ar,bK:=0 }) hc8 OQ rfl ⟨rfl,rfl⟩ rfl rfl ⟨rfl,rfl,rfl⟩ ⟨rfl,rfl,rfl,rfl⟩ ⟨rfl,rfl,rfl,rfl,rfl,rfl⟩ ⟨rfl,rfl,rfl,rfl⟩))
    have HQ8:=hid (show Ar.st=q from congrArg WP.c Nz.out.st)
    clear OQ hc8
    go_wp2_with fail
    go_ret
    exact⟨rfl,_,Dn.out.wld,by show ({ g with cg:=Ar,bK:=0 }:WG).st=_;unfold WG.st;simp only[HQ8.out],Dn.out.grow,Dn.out.b,Dn.out.iv⟩
def l9(l:List uq):Nat:=(l.filter (fun x=>decide (x.ended=0))).length
theorem Sz{l:List uq}{k:Nat}{x:uq}(h:l[k]? = some x):l9 (l.take (k+1))=l9 (l.take k)+(if x.ended=0 then 1 else 0):=by
 unfold l9
 rw[List.take_add_one,h,List.filter_append,List.length_append]
 by_cases e:x.ended=0
 ·simp[e]
 ·simp[e]
theorem Zj(l:List uq)(k:Nat):l9 (l.take k)≤k:=by
 unfold l9
 have h1:=List.length_filter_le (fun x:uq=>decide (x.ended=0)) (l.take k)
 have h2:(l.take k).length≤k:=by simp;omega
 omega
theorem O9:∀ (l:List uq) (k j:Nat) (v:Value) (x:uq),l[k]? = some x→(lU x)[j]? = some v→(sH l)[k*5+j]? = some v
 | [],k,_,_,_,h,_=>by simp at h
 | y::r,0,j,v,x,h,hj=>by
  obtain rfl:y=x:=by simpa using h
  have hj5:j<5:=by
   rcases Nat.lt_or_ge j 5 with h | h
   ·exact h
   ·rw[List.getElem?_eq_none (by simp;omega)] at hj;cases hj
  show (lU y++sH r)[0*5+j]? = some v
  rw[List.getElem?_append_left (by simp;omega)]
  simpa using hj
 | y::r,k+1,j,v,x,h,hj=>by
  show (lU y++sH r)[(k+1)*5+j]? = some v
  rw[List.getElem?_append_right (by simp;omega)]
  have:=O9 r k j v x (by simpa using h) hj
  rw[← this]
  congr 1
  simp
  omega
theorem lI.iY{lo:Nat}{w:World}{g:WG}(h:lI lo w g):w.ownsRow lo 48 5 g.kX g.calls.length (sH g.calls) :=
 h.has.own h.ra (fun p hp=>by unfold WG.res WG.rest;simp only[List.mem_append];exact Or.inr (Or.inr (Or.inr (Or.inr (Or.inr (Or.inr (Or.inr (Or.inr (Or.inr hp)))))))))
theorem lI.eY{lo:Nat}{w:World}{g:WG}(h:lI lo w g){k:Nat}{x:uq}(hk:g.calls[k]? = some x):∃ ga c,g.kX=.slice (some ⟨ga,0,none⟩) g.calls.length c∧∀ j v,(lU x)[j]? = some v→w.cell? ⟨ga,k*5+j,none⟩=some v:=by
 have hkl:k<g.calls.length:=(List.getElem?_eq_some_iff.1 hk).1
 rcases h.iY.2 with⟨_,e⟩ | ⟨ga,c,cur,hv,r⟩
 ·omega
 ·refine⟨ga,c,hv,fun j v hj=>?_⟩
  have:=h.iY.cells (g:=ga) (by rw[hv];rfl) (k*5+j) v (O9 _ k j v x hk hj)
  rw[fE _ _ rfl] at this
  simpa using this
theorem Ii{lo:Nat}{w:World}{g:WG}(h:lI lo w g)(hn:g.calls.length≤100000):
  Calls Tryz.prog 19 #[.pointer (some ⟨g.b,0,none⟩)] w (fun e w'=>e=.returned (.int .i64 (l9 g.calls))∧w'=w):=by
 obtain⟨ca,cc,hcv⟩:=h.ra.slice
 have Jc:w.cell? ⟨g.b,17,none⟩=some (.slice ca g.calls.length cc):=(show w.cell? ⟨g.b,17,none⟩=some g.kX from h.blk.cell 17).trans (by rw[hcv])
 have uI:=hid hcv
 have H:=hid h
 clear h hcv
 go_enter func19,ntmps19
 go_wp2_with fail
 go_loopg [3,4] g.calls.length (fun gk n i wr=>∃ k:Nat,k+gk=g.calls.length∧n=.int .i64 (l9 (g.calls.take k))∧i=.int .i64 k∧wr=w)
 case atStart=>exact⟨0,by omega,by simp[l9],rfl,rfl⟩
 case round=>
  obtain⟨k,hk,rfl,rfl,rfl⟩:=hrel
  by_cases hlt:k<g.calls.length
  ·obtain⟨x,hx⟩:∃ x,g.calls[k]? = some x:=⟨_,List.getElem?_eq_getElem hlt⟩
   obtain⟨ga,c,hv,hcell⟩:=H.out.eY hx
   obtain⟨rfl,rfl⟩:ca=some ⟨ga,0,none⟩∧cc=c:=by simpa using uI.out.symm.trans hv
   have c4:wr.cell? ⟨ga,k*5+4,none⟩=some (.int .i64 x.ended):=hcell 4 _ rfl
   have fO:(k:Int)<(g.calls.length:Int):=by omega
   have HS:=hid (Sz hx)
   have hle:=Zj g.calls k
   obtain⟨N,hN⟩:∃ N,l9 (g.calls.take k)=N:=⟨_,rfl⟩
   rw[hN] at HS hle ⊢
   clear hN hv hcell hx
   by_cases e:x.ended=0
   ·have b1:((x.ended:Int)==0)=true:=by simp[e]
    have HS2:=hid (show l9 (g.calls.take (k+1))=N+1 by have:=HS.out;rw[if_pos e] at this;exact this)
    clear e HS
    go_wp2_with fail
    go_roundg (gk-1)
    case rel=>exact⟨k+1,by omega,by rw[HS2.out];go_num,by go_num,rfl⟩
    case measure=>omega
   ·have b1:((x.ended:Int)==0)=false:=by simp;omega
    have HS2:=hid (show l9 (g.calls.take (k+1))=N by have:=HS.out;rw[if_neg e] at this;exact this)
    clear e HS
    go_wp2_with fail
    go_roundg (gk-1)
    case rel=>exact⟨k+1,by omega,by rw[HS2.out],by go_num,rfl⟩
    case measure=>omega
  ·have fO:¬ (k:Int)<(g.calls.length:Int):=by omega
   have HA:=hid (show l9 (g.calls.take k)=l9 g.calls by rw[List.take_of_length_le (by omega)])
   go_wp2_with fail
   go_ret
   exact⟨by rw[← HA.out];rfl,rfl⟩
structure QT where
 name:ByteArray
 value:ByteArray
 base:ByteArray
 enc:List UInt8
 dat:ByteArray
 ans:ByteArray
 av:ByteArray
 ad:List UInt8
def qN:List QT:=[
 ⟨ByteArray.mk #[97,100,100],ByteArray.mk #[123,120,58,48,44,121,58,45,49,44,116,97,103,58,34,92,48,97,48,34,44,109,111,114,101,58,91,123,120,58,48,44,121,58,48,44,109,111,114,101,58,91,93,125,93,125],ByteArray.mk #[112,111,105,110,116],[1,1,0,2,1,1,5,2,10,48,7,9,8,1,1,0,2,1,0,7,0],ByteArray.mk #[97,100,100,32,1,1,0,2,1,1,5,2,10,48,7,9,8,1,1,0,2,1,0,7,0],ByteArray.mk #[105,110,116],ByteArray.mk #[48],[0]⟩,
 ⟨ByteArray.mk #[110,97,109,101],ByteArray.mk #[49],ByteArray.mk #[105,110,116],[2],ByteArray.mk #[110,97,109,101,32,2],ByteArray.mk #[116,101,120,116],ByteArray.mk #[34,116,49,92,48,48,34],[116,49,0]⟩,
 ⟨ByteArray.mk #[97,100,100],ByteArray.mk #[123,120,58,50,44,121,58,45,49,44,116,97,103,58,34,92,48,97,50,34,44,109,111,114,101,58,91,93,125],ByteArray.mk #[112,111,105,110,116],[1,1,4,2,1,1,5,2,10,50,7,0],ByteArray.mk #[97,100,100,32,1,1,4,2,1,1,5,2,10,50,7,0],ByteArray.mk #[105,110,116],ByteArray.mk #[49,52],[28]⟩,
 ⟨ByteArray.mk #[110,97,109,101],ByteArray.mk #[51],ByteArray.mk #[105,110,116],[6],ByteArray.mk #[110,97,109,101,32,6],ByteArray.mk #[116,101,120,116],ByteArray.mk #[34,116,51,92,48,48,34],[116,51,0]⟩,
 ⟨ByteArray.mk #[97,100,100],ByteArray.mk #[123,120,58,52,44,121,58,45,49,44,116,97,103,58,34,92,48,97,52,34,44,109,111,114,101,58,91,93,125],ByteArray.mk #[112,111,105,110,116],[1,1,8,2,1,1,5,2,10,52,7,0],ByteArray.mk #[97,100,100,32,1,1,8,2,1,1,5,2,10,52,7,0],ByteArray.mk #[105,110,116],ByteArray.mk #[50,56],[56]⟩,
 ⟨ByteArray.mk #[110,97,109,101],ByteArray.mk #[53],ByteArray.mk #[105,110,116],[10],ByteArray.mk #[110,97,109,101,32,10],ByteArray.mk #[116,101,120,116],ByteArray.mk #[34,116,53,92,48,48,34],[116,53,0]⟩,
 ⟨ByteArray.mk #[97,100,100],ByteArray.mk #[123,120,58,54,44,121,58,45,49,44,116,97,103,58,34,92,48,97,54,34,44,109,111,114,101,58,91,123,120,58,48,44,121,58,49,44,109,111,114,101,58,91,93,125,93,125],ByteArray.mk #[112,111,105,110,116],[1,1,12,2,1,1,5,2,10,54,7,9,8,1,1,0,2,1,2,7,0],ByteArray.mk #[97,100,100,32,1,1,12,2,1,1,5,2,10,54,7,9,8,1,1,0,2,1,2,7,0],ByteArray.mk #[105,110,116],ByteArray.mk #[52,50],[84]⟩,
 ⟨ByteArray.mk #[110,97,109,101],ByteArray.mk #[55],ByteArray.mk #[105,110,116],[14],ByteArray.mk #[110,97,109,101,32,14],ByteArray.mk #[116,101,120,116],ByteArray.mk #[34,116,55,92,48,48,34],[116,55,0]⟩]
def Ij:SP.Ask:=fun d=>(qN.find? (fun q=>decide (q.dat.data.toList=d))).map (fun q=>(q.name,q.value,q.ans))
def Zk:Dec:=fun b d=>(qN.find? (fun q=>decide (q.ans=b)&&decide (q.ad=d))).map (fun q=>q.av)
def bY{α β:Type}(f:β → α → Option β)(w:β)(l:List α):Option β:=l.foldl (fun o a=>o.bind (fun x=>f x a)) (some w)
theorem SA{α β:Type}(f:β → α → Option β)(w:β):bY f w []=some w:=rfl
theorem Dp{α β:Type}(f:β → α → Option β)(w:β)(l:List α)(a:α):bY f w (l++[a])=(bY f w l).bind (fun x=>f x a):=by unfold bY;rw[List.foldl_append];rfl
theorem Dq{α β:Type}(f:β → α → Option β):∀ (l:List α),l.foldl (fun o a=>o.bind (fun x=>f x a)) none=none
 | []=>rfl
 | a::r=>by rw[List.foldl_cons];exact Dq f r
theorem FK{α β:Type}(f:β → α → Option β)(w:β)(l m:List α):bY f w (l++m)=(bY f w l).bind (fun x=>bY f x m):=by
 unfold bY
 rw[List.foldl_append]
 cases l.foldl (fun o a=>o.bind (fun x=>f x a)) (some w) with
 | none=>exact Dq f m
 | some x=>rfl
theorem NC{α β:Type}{f:β → α → Option β}{w r:β}{l:List α}(h:bY f w l=some r)(k:Nat):∃ m,bY f w (l.take k)=some m:=by
 rw[← List.take_append_drop k l,FK] at h
 cases e:bY f w (l.take k) with
 | none=>rw[e] at h;cases h
 | some m=>exact⟨m,rfl⟩
theorem jI{α β:Type}{f:β → α → Option β}{w r m:β}{l:List α}(h:bY f w l=some r){k:Nat}{a:α}(ha:l[k]? = some a)(hm:bY f w (l.take k)=some m):∃ m',f m a=some m'∧bY f w (l.take (k+1))=some m':=by
 obtain⟨m',h'⟩:=NC h (k+1)
 have e:=h'
 rw[List.take_add_one,ha,Option.toList_some,Dp,hm] at e
 exact⟨m',e,h'⟩
theorem kQ{α β:Type}{f:β → α → Option β}{w r m:β}{l:List α}(h:bY f w l=some r){k:Nat}(hk:l.length≤k)(hm:bY f w (l.take k)=some m):m=r:=by
 rw[List.take_of_length_le hk,h] at hm
 exact(Option.some.inj hm).symm
def smB(p:aP):Bool:=decide (p.kind<256)&&decide (p.token<1000000)&&decide (p.session<1000000)&&decide (p.number<1000000)&&decide (p.position<1000000)&&decide (p.data.size≤79)
def csB(c:CP):Bool:=decide (c.asked.length≤1000)&&c.streams.isEmpty&&decide (c.calls.length≤1000)&&decide (c.attempt≤1000000)&&decide (c.silence≤1000000)&&decide (c.next≤1000000)&&decide (c.called≤1000000)
def Zl:List Nat→Bool
 | []=>true
 | a::r=>!(r.contains a)&&Zl r
def WI(s:SP)(f:IU→Bool):Bool:=match s.aT with
 | none=>true
 | some o=>f o
def ssB(s:SP):Bool:=s.aX.all (fun t=>decide (t.kept.length≤t.count)&&decide (t.count≤1000000))&&WI s (fun o=>o.feeds.isEmpty&&decide (o.answers.length≤1000)&&decide (o.silence≤1000000)&&decide (o.next≤1000000))&&decide (s.begun≤1000000)&&decide (s.given≤1000000)&&decide (s.waits.length≤1000)&&Zl (s.owed.map (fun x=>x.1))&&s.owed.all (fun x=>decide (x.1<s.given))
def ND(s:SP):SP:=match s.aT with
 | some o=>{ s with aT:=some { o with silence:=0 } }
 | none=>s
def KI(L:List aP):Bool:=decide (L.length≤60)&&L.all smB
namespace WP
def Dt(w:WP):Bool:=csB w.c&&ssB w.s&&decide (w.c.silence<3)&&decide (w.bK<3)&&WI w.s (fun o=>decide (o.silence<3))&&decide (w.bC<3)
def Ik(w:WP):Option WP:=if w.Dt then some w.jQ.lG else none
def hsB(w:WP)(p:aP):Bool:=smB p&&ssB w.s&&decide (w.o9=w.qU)&&w.s.isUp (w.qU:Int)&&WI w.s (fun o=>decide (o.token=p.token))&&((decide (p.kind=0)&&w.s.aT.isNone)||decide (p.kind=1)||(decide (p.kind=3)&&((ND w.s).request w.W p).2&&qN.any (fun q=>decide (q.dat=p.data)))||(decide (p.kind=5)&&(ND w.s).oI p))
def hcB(w:WP)(p:aP):Bool:=smB p&&csB w.c&&decide (w.o9=w.qU)&&w.c.isUp (w.o9:Int)&&(decide (p.kind=6)||decide (p.kind=7)||decide (p.kind=13)||(decide (p.kind=12)&&w.c.calls.all (fun o=>!decide (o.request=p.number)||qN.any (fun q=>decide (q.ans=o.answer)&&decide (q.ad=p.data.data.toList)))))
def sJ(w:WP)(p:aP):Option WP:=if w.hsB p then some { w with bC:=0,s:=w.s.take Ij w.W p } else none
def sK(w:WP)(p:aP):Option WP:=if w.hcB p then some { w with bK:=0,c:=w.c.take Zk w.R p } else none
def KJ(w:WP):Option (WP × Bool) :=
 if KI w.c.L then(bY sJ w.PN w.c.L).bind (fun w1=>if KI w1.s.L then(bY sK w1.PO w1.s.L).map (fun w2=>(w2,w.c.L.isEmpty&&w1.s.L.isEmpty)) else none) else none
def nY:Nat→WP→Option WP
 | 0,_=>none
 | n+1,w=>match w.KJ with
  | none=>none
  | some (w',true)=>some w'
  | some (w',false)=>nY n w'
def vN(w:WP)(i:Nat):Option WP:=match w.calls[i]?,qN[i]? with
 | some x,some q=>
  if ssB w.s&&decide (x.name=q.name)&&decide (x.answer=⟨#[]⟩)&&decide (0≤x.id) then
   match w.s.owed.find? (fun y=>decide (y.1=x.id.toNat)),w.s.aT with
   | some (_,y),some o=>if decide (y.answer=q.ans)&&decide (o.token=y.token)&&decide (o.number=y.session) then some { w with s:=w.s.reply x.id.toNat q.ad,calls:=w.calls.set i { x with answer:=q.av } } else none
   | _,_=>none
  else none
 | _,_=>none
def FM(w:WP):Option (WP × Bool):=match w.s.waits with
 | []=>some (w,false)
 | q::_=>match w.calls.findIdx? (fun x=>decide (x.id<0)) with
  | none=>none
  | some i=>match w.calls[i]? with
   | none=>none
   | some x=>
    if ssB w.s&&decide (x.name=q.name)&&decide (x.value=q.value)&&decide (w.s.given=w.came)&&decide (w.came≤1000000)&&decide (w.calls.length≤8) then
     (vN { w with s:=w.s.next,calls:=w.calls.set i { x with id:=(w.came:Int) },came:=w.came+1 } i).map (fun w'=>(w',true))
    else none
def qx:Nat→WP→Option WP
 | 0,_=>none
 | n+1,w=>match w.FM with
  | none=>none
  | some (w',false)=>some w'
  | some (w',true)=>qx n w'
def kY(w:WP)(i:Nat):Option WP:=match w.calls[i]? with
 | none=>none
 | some x=>if csB w.c&&decide (i<w.c.called)&&decide (w.calls.length≤8) then match w.c.answer (i:Int) with
   | (c',0,v)=>if decide (v=⟨#[]⟩) then some { w with c:=c' } else none
   | (c',1,v)=>if decide (x.ended=0) && !decide (x.answer=⟨#[]⟩)&&decide (v=x.answer) then some { w with c:=c',calls:=w.calls.set i { x with ended:=1 } } else none
   | (c',3,v)=>if decide (x.ended=0)&&decide (v=⟨#[]⟩)&&w.cause then some { w with c:=c',calls:=w.calls.set i { x with ended:=3 } } else none
   | _=>none
  else none
def qy(w:WP):Option WP:=w.Ik.bind fun w1=>(nY 51 w1).bind fun w2=>
 if decide (w2.bK=0)&&decide (w2.bC=0)&&w2.streams.isEmpty then(qx 10 w2).bind fun w3=>
  if w3.calls.all (fun x=>decide (x.id<0) || !decide (x.answer=⟨#[]⟩))&&decide (w3.calls.length≤8) then bY kY w3 (List.range w3.calls.length) else none
 else none
def upB(w:WP):Bool:=csB w.c&&decide (w.conn≤1000000)&&(!w.c.had||decide (w.c.last<((w.conn+1:Nat):Int)))&&(!w.s.had||decide (w.s.last<((w.conn+1:Nat):Int)))
def Xz(w:WP):Option WP:=if w.upB then some w.up0 else none
def Du(w:WP):Option WP:=if w.streams.isEmpty&&w.v0.isEmpty&&w.v1.isEmpty&&w.v2.isEmpty&&decide (w.calls.length≤8) then w.Xz.bind fun w1=>(bY (fun x _=>qy x) w1 (List.range (20+w.calls.length))).bind fun w2=>if decide (l9 w2.calls=0) then some w2 else none else none
def xR(w:WP)(i:Nat):Option WP:=match qN[i]? with
 | none=>none
 | some q=>if csB w.c && !w.c.oD w.W&&decide (w.calls.length=i)&&decide (w.c.called=i)&&decide (l9 w.calls+1≤w.W) then some { w with c:=w.c.call q.name q.ans ⟨q.enc.toArray⟩,calls:=w.calls++[⟨q.name,q.value,⟨#[]⟩,-1,0⟩] } else none
def Dv(w:WP):Option WP:=w.Ik.bind (nY 51)
def init(W token:Nat):WP:=⟨⟨0,false,false,[],[⟨ByteArray.mk #[116,105,99,107,115],ByteArray.mk #[105,110,116],0,[],false⟩,⟨ByteArray.mk #[109,97,114,107,115],ByteArray.mk #[112,111,105,110,116],0,[],false⟩,⟨ByteArray.mk #[104,117,101,115],ByteArray.mk #[99,111,108,111,114],0,[],false⟩],none,false,0,[],0,[]⟩,⟨0,false,false,[],token,0,0,0,[],0,[],0,[],0⟩,W,4,1,0,0,0,[],[],[],[],[],false,false,false,[],[],0,0,0,false,false⟩
def Il(W token n:Nat):Option WP:=(init W token).Xz.bind fun w=>bY xR w (List.range n)
def aaM(w:WP):WP:={ w with s:=w.s.restart,cause:=true }
def Zm(W n t:Nat):Option WP:=(Il W 1 n).bind fun w=>(bY (fun x _=>Dv x) w (List.range t)).bind fun w=>w.aaM.Du
def Zn(W n:Nat):Option WP:=(Il W 2 n).bind fun w=>w.Du.bind fun w=>if w.calls.all (fun x=>decide (x.ended=1)) then some w else none
end WP
theorem Tryz.infoAk:(Tryz.prog.info? 48).map (fun i=>(i.zero,i.size,i.bytes))=some (some (.agg #[.string ⟨#[]⟩,.string ⟨#[]⟩,.string ⟨#[]⟩,.int .i64 0,.int .i64 0]),5,64):=by kernel_rfl
theorem SB(l:List uq)(x:uq):sH (l++[x])=sH l++lU x:=by unfold sH;simp
theorem lI.EG{lo:Nat}{w w':World}{g:WG}{cv':Value}{l':List uq}{n':Nat}(h:lI lo w g)(hc:aG (fun k=>k=g.b∨g.kX.ownBlock=some k) w w')(hB:aK w' g.b 39 ({ g with kX:=cv',calls:=l',came:=n' }:WG).cells)(hA:w'.ownsRow lo 48 5 cv' l'.length (sH l'))(hnew:∀ k,cv'.ownBlock=some k→g.kX.ownBlock=some k∨w.heap.size≤k):
  mF lo w g { g.st with calls:=l',came:=n' } w' { g with kX:=cv',calls:=l',came:=n' }:=by
 obtain⟨hA1,hA2⟩:=jR hA (by decide)
 have hh:Has lo w' (({ g with kX:=cv',calls:=l',came:=n' }:WG).o7++({ g with kX:=cv',calls:=l',came:=n' }:WG).rowA):=aA.2 ⟨dH h.Oa hB (by decide),hA1,fun a ha c hc' e=>by
  rw[List.mem_singleton.1 ha] at e
  have hk:=(bQ (e:=48) hA2).1 ⟨c,hc',rfl⟩
  have e':g.b=c.1:=e
  rw[← e'] at hk
  exact hB.dF hA (by decide) hk⟩
 have hg:Grow w (g.o7++g.rowA) w' (({ g with kX:=cv',calls:=l',came:=n' }:WG).o7++({ g with kX:=cv',calls:=l',came:=n' }:WG).rowA):=⟨hc.mono (fun i _ hi=>by
  rcases hi with rfl | hi
  ·exact Key.app.2 (Or.inl (Key.one.2 rfl))
  ·exact Key.app.2 (Or.inr ((bQ h.ra).2 hi))),fun k hk=>by
  rcases Key.app.1 hk with e | e
  ·exact Or.inl (Key.app.2 (Or.inl (Key.one.2 (show k=g.b from Key.one.1 e))))
  ·rcases hnew k ((bQ hA2).1 e) with e | e
   ·exact Or.inl (Key.app.2 (Or.inr ((bQ h.ra).2 e)))
   ·exact Or.inr e⟩
 have p1:g.res.Perm ((g.o7++g.rowA)++(g.sg.res++(g.cg.res++(g.dX++(g.aU++(g.WC++(g.WE++(g.WH++g.rowT)))))))):=aY (fun p=>by unfold WG.res WG.rest;simp only[aH];omega)
 have p2:((({ g with kX:=cv',calls:=l',came:=n' }:WG).o7++({ g with kX:=cv',calls:=l',came:=n' }:WG).rowA)++(g.sg.res++(g.cg.res++(g.dX++(g.aU++(g.WC++(g.WE++(g.WH++g.rowT)))))))).Perm ({ g with kX:=cv',calls:=l',came:=n' }:WG).res:=aY (fun p=>by
  show _=cnt p (({ g with kX:=cv',calls:=l',came:=n' }:WG).o7++(g.dX++(g.aU++(g.sg.res++(g.cg.res++(g.WC++(g.WE++(g.WH++(g.rowT++({ g with kX:=cv',calls:=l',came:=n' }:WG).rowA)))))))))
  simp only[aH];omega)
 have hX:=(h.has.perm p1).swap hh hg
 have hS:Srv lo w' g.sg:=⟨(aA.1 (aA.1 hX).2.1).1,h.srv.rt,h.srv.tp,h.srv.ss,h.srv.rw⟩
 have hC:Cli lo w' g.cg:=⟨(aA.1 (aA.1 (aA.1 hX).2.1).2.1).1,h.cli.ra,h.cli.rs,h.cli.rc,h.cli.rv⟩
 exact⟨⟨hX.perm p2,hS,hC,h.rs,h.rc,h.fs,h.fc,h.r0,h.r1,h.r2,h.rt,hA2,h.vM,h.zX⟩,rfl,hg.swap.perm p1.symm p2,rfl,rfl,rfl⟩
theorem lI.afV{lo:Nat}{w:World}{g:WG}(h:lI lo w g)(hlo:lo≤w.heap.size)(hn:g.calls.length≤1000000){nb:Nat}{T:TypeId}{x:uq}(hN:aK w nb T (lU x)){aa:Option Addr}{ac:Nat}(hv:g.kX=.slice aa g.calls.length ac):
  ∃ a' c' w',(Builtin.append_ #[36,36] 36 #[.slice aa g.calls.length ac,.slice (some ⟨nb,0,none⟩) 1 1]).run Tryz.prog w=.ok (.slice a' (g.calls.length+1) c') w'∧w'.cell? ⟨g.b,17,none⟩=some (.slice aa g.calls.length ac)∧w'.frozen? ⟨g.b,17,none⟩=false∧aG (fun k=>g.kX.ownBlock=some k) w w'∧mF lo w g { g.st with calls:=g.calls++[x] } (w'.setCell ⟨g.b,17,none⟩ (.slice a' (g.calls.length+1) c')) { g with kX:=.slice a' (g.calls.length+1) c',calls:=g.calls++[x] }:=by
 have hA:=h.iY
 have hA':=hA
 rw[hv] at hA'
 obtain⟨a',c',w4,hr,Tn,hg4⟩:=jU w 36 36 48 _ 5 64 underlying36 Tryz.infoAk rfl (by decide) (.slice aa g.calls.length ac) g.calls.length (sH g.calls) lo hA' ⟨nb,0,none⟩ 1 1 (lU x) rfl (fun j u hu=>by
  rw[fE _ _ rfl]
  have:=hN.cell (0+j)
  rw[this]
  simpa using hu) (fun u hu=>by simp at hu;rcases hu with rfl | rfl | rfl | rfl | rfl<;>rfl) (by unfold maxLen;omega) (by omega) hlo
 have zM:∀ k,(Value.slice aa g.calls.length ac).ownBlock=some k→g.kX.ownBlock=some k:=fun k hk=>by rw[hv];exact hk
 have hc4:aG (fun k=>g.kX.ownBlock=some k) w w4:=aG.grew hg4 zM
 have hnb:=h.blk.dF hA (by decide)
 have hB4:=h.blk.dB hc4 hnb
 have hnb':(Value.slice a' (g.calls.length+1) c').ownBlock≠some g.b:=hB4.dF Tn (by decide)
 have hc5:aG (fun k=>k=g.b) w4 (w4.setCell ⟨g.b,17,none⟩ (.slice a' (g.calls.length+1) c')):=(aG.refl _ _).setCell _ _ (fun _=>rfl)
 have XQ:=hc5.own Tn (fun k hk e=>hnb' (e ▸ hk))
 have Ac:aK (w4.setCell ⟨g.b,17,none⟩ (.slice a' (g.calls.length+1) c')) g.b 39 ({ g with kX:=.slice a' (g.calls.length+1) c',calls:=g.calls++[x],came:=g.came }:WG).cells:=hB4.set 17 _
 refine⟨a',c',w4,hr,(show w4.cell? ⟨g.b,17,none⟩=some g.kX from hB4.cell 17).trans (by rw[hv]),hB4.frozen 17,hc4,?_⟩
 exact h.EG (n':=g.came) ((hc4.mono (fun i _ e=>Or.inr e)).same (hc5.mono (fun i _ e=>Or.inl e))) Ac (by
  rw[SB,List.length_append,List.length_singleton]
  exact XQ) (fun k hk=>by
  rcases hg4.b k hk with e | e
  ·exact Or.inl (zM k e)
  ·exact Or.inr e)
theorem FN:∀ (l:List uq) (k j:Nat) (x x':uq) (v:Value),l[k]? = some x→j<5→(lU x).set j v=lU x'→(sH l).set (k*5+j) v=sH (l.set k x')
 | [],k,_,_,_,_,h,_,_=>by simp at h
 | y::r,0,j,x,x',v,h,hj,he=>by
  obtain rfl:y=x:=by simpa using h
  show (lU y++sH r).set (0*5+j) v=lU x'++sH r
  rw[List.set_append_left _ _ (by simp;omega),← he]
  simp
 | y::r,k+1,j,x,x',v,h,hj,he=>by
  show (lU y++sH r).set ((k+1)*5+j) v=lU y++sH (r.set k x')
  rw[List.set_append_right _ _ (by simp;omega),← FN r k j x x' v (by simpa using h) hj he]
  congr 2
  simp
  omega
theorem lI.WJ{lo:Nat}{w:World}{g:WG}(h:lI lo w g){k j:Nat}{x x':uq}{v:Value}(hk:g.calls[k]? = some x)(hj:j<5)(he:(lU x).set j v=lU x'){ga c:Nat}(hv:g.kX=.slice (some ⟨ga,0,none⟩) g.calls.length c):
  mF lo w g { g.st with calls:=g.calls.set k x' } (w.setCell ⟨ga,k*5+j,none⟩ v) { g with calls:=g.calls.set k x' }:=by
 have hA:=h.iY
 have hob:g.kX.ownBlock=some ga:=by rw[hv];rfl
 have hnb:=h.blk.dF hA (by decide)
 have hgb:ga≠g.b:=fun e=>hnb (by rw[hob,e])
 have hc:aG (fun k=>k=ga) w (w.setCell ⟨ga,k*5+j,none⟩ v):=(aG.refl (fun k=>k=ga) w).setCell ⟨ga,k*5+j,none⟩ _ (fun _=>rfl)
 rw[hv] at hA
 have hR:=iE (o:=k*5+j) hA v
 rw[FN g.calls k j x x' v hk hj he] at hR
 have hB:aK (w.setCell ⟨ga,k*5+j,none⟩ v) g.b 39 ({ g with kX:=g.kX,calls:=g.calls.set k x',came:=g.came }:WG).cells:=h.blk.dB hc (fun e=>hgb (Eq.symm e))
 exact h.EG (cv':=g.kX) (l':=g.calls.set k x') (n':=g.came) (hc.mono (fun i _ e=>Or.inr (by rw[hob,e]))) hB (by
  rw[hv,List.length_set]
  exact hR) (fun k hk=>Or.inl hk)
theorem Zo{lo:Nat}{w:World}{g:WG}(h:lI lo w g)(hs:g.streams=[]):
  Calls Tryz.prog 46 #[.pointer (some ⟨g.b,0,none⟩)] w (fun e w'=>e=.returned (.bool true)∧w'=w):=by
 obtain⟨ca,cc,hcv⟩:=h.rt.slice
 have d16:w.cell? ⟨g.b,16,none⟩=some (.slice ca 0 cc):=(show w.cell? ⟨g.b,16,none⟩=some g.stv from h.blk.cell 16).trans (by rw[hcv,hs];rfl)
 clear h hs hcv
 go_enter func46,ntmps46
 go_wp2_with fail
 go_loopg [3] 1 (fun gk i wr=>i=.int .i64 0∧wr=w)
 case atStart=>exact⟨rfl,rfl⟩
 case round=>
  obtain⟨rfl,rfl⟩:=hrel
  go_wp2_with fail
  go_ret
  exact⟨rfl,rfl⟩
theorem Pg{lo:Nat}{w:World}{g:WG}(h:lI lo w g)(rep:Bool)(hn:g.sg.waits=[]):
  Calls Tryz.prog 11 #[.pointer (some ⟨g.b,0,none⟩),.bool rep] w (fun e w'=>e=.returned (.tuple #[.bool false,.bool true])∧∃ g',mF lo w g g.st w' g'):=by
 have k0:w.cell? ⟨g.b,0,none⟩=some (.pointer (some ⟨g.sb,0,none⟩)):=h.blk.cell 0
 have HC:=hid (fun(w0:World) (hb:Below w.heap.size w w0)=>WB (h.below hb).srv g.sb ((h.below hb).dX.cell 0) (h.below hb).dX.lt 0 ⟨#[]⟩ ⟨#[]⟩ false (q:=g.sg.st) (fun w1 hb1=>by
  refine(Zd ((h.below hb).srv.below hb1) hn).mono ?_
  rintro e w' ⟨rfl,hb2⟩
  exact⟨rfl,g.sg,dV.refl ((h.below hb).srv.below hb1) hb2⟩))
 have H:=hid h
 clear h hn
 go_enter func11,ntmps11
 go_wp2_with fail
 refine(HC.out w (Below.refl _ _)).mono ?_;rintro e w1 ⟨rfl,sg1,h1⟩
 have hT1:=H.out.lK h1
 have HT1:=hid (show mF lo w g g.st w1 { g with sg:=sg1 } from hT1)
 clear h1 hT1
 go_wp2_with fail
 have zW:Below w1.heap.size w1 (w1.alloc (.cells #[.int .i64 0,.string ⟨#[]⟩,.string ⟨#[]⟩] 70)):=(Below.refl _ _).alloc (Nat.le_refl _) _
 have kE:aK (w1.alloc (.cells #[.int .i64 0,.string ⟨#[]⟩,.string ⟨#[]⟩] 70)) w1.heap.size 70 [.int .i64 0,.string ⟨#[]⟩,.string ⟨#[]⟩]:=heap_alloc_new w1 _
 obtain⟨wq,Si⟩:∃ wq,w1.alloc (.cells #[.int .i64 0,.string ⟨#[]⟩,.string ⟨#[]⟩] 70)=wq:=⟨_,rfl⟩
 rw[Si] at zW kE ⊢
 have q0:wq.cell? ⟨w1.heap.size,0,none⟩=some (.int .i64 0):=kE.cell 0
 have q1:wq.cell? ⟨w1.heap.size,1,none⟩=some (.string ⟨#[]⟩):=kE.cell 1
 have q2:wq.cell? ⟨w1.heap.size,2,none⟩=some (.string ⟨#[]⟩):=kE.cell 2
 have HQ:=hid zW
 clear zW kE
 go_quiet (fail)
 go_wp2_with fail
 go_ret2
 exact⟨rfl,_,HT1.out.below (below_drewN HQ.out nq)⟩
end Go.Proofs.YtolfcabodiphmaaGreatDoor
