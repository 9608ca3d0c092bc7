/- Package ends: Publish, while there is no session. -/
import Derived.Test.YtgalebcpagmohaaGreatDoorMDB
import Derived.Test.YtgalebcpagmohaaGreatDoorMPEncV
import Derived.Test.YtgalebcpagmohaaGreatDoorMFrA
set_option linter.unusedSimpArgs false
set_option linter.unusedVariables false
set_option maxHeartbeats 4000000
set_option maxRecDepth 100000
namespace Go.Proofs.YtgalebcpagmohaaGreatDoor
open Go.Proofs.Tryz
open Go.RowKit Go.Conc
theorem af7:(75:TypeId) ≠ 97:=by decide
theorem Pn {w:World} {lo n size q:Nat} {e:TypeId} {v:Value} {xs:List Value} {L:List gG} (h:w.ownsRow lo e size v n xs) (k:wB w q L):v.ownBlock≠some q:=fun hv=>by
 obtain⟨cur,hc⟩:=jZ h hv
 obtain⟨s,r,k⟩:=k
 rw[k] at hc
 cases hc
theorem Jf {w:World} {lo n size m:Nat} {e:TypeId} {v:Value} {xs:List Value} {L:List gG} (h:w.ownsRow lo e size v n xs) (k:Waits w m L):v.ownBlock≠some m:=fun hv=>by
 obtain⟨cur,hc⟩:=jZ h hv
 obtain⟨es,clock,k,_⟩:=k
 rw[k] at hc
 cases hc
def YI (w:World) (b lo:Nat) (i0 i1 i2 i3:Value) (last:Int) (had up:Bool) (aI:Value) (ms mo:Nat) (L:List gG) (q m:Nat) (Ts:List dU) (R:Nat) (X:List bY) (name v:ByteArray) (e:Ending) (w':World):Prop:=∃ o,Named Ts name o∧match o with
 | none=>e=.returned (.int .i64 11)∧Below w.heap.size w w'
 | some (k,t)=>if t.fin=true then e=.returned (.int .i64 12)∧Below w.heap.size w w' else ∃ (E:Int) (d:List UInt8),AZ X t.base v E d∧e=.returned (.int .i64 E)∧(¬ E=0→Below w.heap.size w w')∧(E=0→∃ kept' dv,aW w' b 75 i0 i1 i2 i3 last had up (nT aI ms mo) L q m∧iD w' lo aI (Ts.set k { t with count:=t.count+1,kept:=kept',kv:=xZ R t.kv dv })∧aN (fun i=>i=t.blk∨t.kept.ownBlock=some i) w w')
theorem Jg (w:World) (b:Nat) (la:Option Addr) (ll lc:Nat) (i1 i2:Value) (R:Nat) (last:Int) (had up:Bool) (aI:Value) (ms mo:Nat) (L:List gG) (q m lo plo:Nat) (Ts:List dU) (X:List bY)
  (h:aW w b 75 (.slice la ll lc) i1 i2 (.int .i64 R) last had up (nT aI ms mo) L q m) (ht:iD w lo aI Ts) (hl:Ts.length≤400) (hI:fQ w plo (.slice la ll lc) X) (hX:Wp X) (hE:Env w) (hO:∀ cb,w.heap.size≤cb→Own cb) (hR:1≤R∧R≤16) (hkR:∀ t∈Ts,t.kv.length≤R∧t.count<1000000000000) (hlo:lo≤w.heap.size) (name v:ByteArray) (hv:v.size≤maxLen) :
  Calls Tryz.prog 76 #[.pointer (some ⟨b,0,none⟩),.string name,.string v] w (YI w b lo (.slice la ll lc) i1 i2 (.int .i64 R) last had up aI ms mo L q m Ts R X name v):=by
 have H:=hid h
 have HT:=hid ht
 have HI:=hid hI
 have HE:=hid hE
 have HO:=hid hO
 have HR:=hid hkR
 clear h ht hI hE hO hkR
 go_enter func76,ntmps76
 go_wp2_with fail
 refine(uG w b _ i1 i2 _ last had up aI ms mo L q m lo Ts H.out HT.out hl name).mono ?_;rintro e w1 ⟨hb1,o,hN,rfl⟩
 have hz1:=hb1.size
 cases hN using Named.ind with
 | no hno=>
  have HN:=hid hno
  clear hno
  simp only
  go_wp2_with fail
  go_ret
  exact⟨none,Named.no HN.out,rfl,hb1⟩
 | yes k t hk hn=>
  have HK:=hid hk
  have HN:=hid hn
  clear hk hn
  cases hf:t.fin
  ·simp only[hf,cond_false]
   unfold jr
   have CJ:=List.mem_of_getElem? HK.out
   have H1:=hid (H.out.below hb1)
   have HT1:=hid (HT.out.below hb1)
   have hB:=HT1.out.each t CJ
   have d1:w1.cell? ⟨t.blk,1,none⟩=some (.string t.base):=hB.cell 1
   have d0:w1.cell? ⟨b,0,none⟩=some (.slice la ll lc):=H1.out.blk.cell 0
   clear hB
   go_wp2_with fail
   go_region_with (go_at_call 112;refine(A8 w1.drew plo la ll lc X t.base v (HI.out.below hb1.drew) hX (HE.out.below hb1.drew) (fun cb hcb=>HO.out cb (Nat.le_trans hz1 hcb)) hv).mono ?_;rintro e w2 ⟨da,dc,d,E,rfl,hb2,hB2,hnil,hans⟩;have HA:=hid hans;clear hB2 hnil hans)
   all_goals
    have fC:Below w1.heap.size w1 w2:=⟨hb2.os,hb2.tape,hb2.output,hb2.size,hb2.block⟩
    have nM:=hb1.trans (fC.mono hz1)
    by_cases hE0:E=0
    ·subst hE0
     have H2:=hid (H1.out.below fC)
     have HT2:=hid (HT1.out.below fC)
     have d3:w2.cell? ⟨b,3,none⟩=some (.int .i64 R):=H2.out.blk.cell 3
     have hKR:=HR.out t CJ
     go_wp2_with fail
     refine(NS w2 lo aI Ts k t R da d.length dc HT2.out HK.out hR hKR.1 hKR.2 (by have:=nM.size;omega)).mono ?_;rintro e w3 ⟨rfl,kept',hT3,hc3⟩
     have hB2:=HT2.out.each t CJ
     have hK2:=(HT2.out.kept t CJ).1
     have hE3:=H2.out.fZ hc3 (fun e=>e.elim (fun e=>H2.out.blk.Ij hB2 ab8.symm e) (fun e=>H2.out.blk.mQ hK2 af7.symm e)) (fun e=>e.elim (fun e=>hB2.lK H2.out.oD e.symm) (fun e=>Pn hK2 H2.out.oD e)) (fun e=>e.elim (fun e=>hB2.gV H2.out.pO e.symm) (fun e=>Jf hK2 H2.out.pO e))
     have HE3:=hid hE3
     have HT3:=hid hT3
     clear hE3 hT3 hB2 hK2
     go_wp2_with fail
     refine(xY w3 b _ i1 i2 _ last had up aI ms mo L q m HE3.out _).mono ?_;rintro e w4 ⟨rfl,rfl⟩
     go_wp2_with fail
     go_ret
     refine⟨some (k,t),Named.yes k t HK.out HN.out,?_⟩
     show (if t.fin=true then _ else _)
     rw[if_neg (by rw[hf];simp)]
     exact⟨0,d,HA.out,rfl,fun h0=>absurd rfl h0,fun _=>⟨kept',.slice da d.length dc,HE3.out,HT3.out,(aN.of_below nM).same hc3⟩⟩
    ·have hEB:(E==0)=false:=by simpa using hE0
     go_wp2_with fail
     go_ret
     refine⟨some (k,t),Named.yes k t HK.out HN.out,?_⟩
     simp only[hf,Bool.false_eq_true,if_false]
     exact⟨E,d,HA.out,rfl,fun _=>nM,fun h0=>absurd h0 hE0⟩
  ·simp only[hf,cond_true]
   go_wp2_with fail
   go_ret
   refine⟨some (k,t),Named.yes k t HK.out HN.out,?_⟩
   simp only[hf,if_true]
   exact⟨rfl,hb1⟩
def adg:Obj→Nat
 | .cells _ T _=>T+2
 | .chan ..=>0
 | .map ..=>1
 | _=>1000000
def Tag (w:World) (k t:Nat):Prop:=∃ o,w.heap[k]? = some o∧adg o=t
theorem Tag.uniq {w:World} {k t u:Nat} (h:Tag w k t) (h':Tag w k u):t=u:=by
 obtain⟨o,ho,rfl⟩:=h
 obtain⟨o',ho',rfl⟩:=h'
 rw[ho] at ho';cases ho';rfl
theorem aU.tag {w:World} {b:Nat} {T:TypeId} {xs:List Value} (h:aU w b T xs):Tag w b (T+2):=⟨_,h,rfl⟩
theorem gJ {w:World} {lo:Nat} {e:TypeId} {size n:Nat} {v:Value} {xs:List Value} (h:w.ownsRow lo e size v n xs) {g:Nat} (hg:v.ownBlock=some g):Tag w g (e+2):=by
 obtain⟨cur,hc⟩:=jZ h hg
 exact⟨_,hc,rfl⟩
theorem wB.tag {w:World} {q:Nat} {L:List gG} (h:wB w q L):Tag w q 0:=by
 obtain⟨s,r,h⟩:=h
 exact⟨_,h,rfl⟩
theorem Waits.tag {w:World} {m:Nat} {L:List gG} (h:Waits w m L):Tag w m 1:=by
 obtain⟨es,clock,h,_⟩:=h
 exact⟨_,h,rfl⟩
theorem Void.tag {w:World} {m:Nat} (h:Void w m):Tag w m 1:=⟨_,h,rfl⟩
def Only (w:World) (F:Nat→Prop) (S:List Nat):Prop:=∀ k,F k→∀ t,Tag w k t→t∈S
theorem jJ {F:Nat→Prop} {w w':World} {S:List Nat} {lo:Nat} {e:TypeId} {size n:Nat} {v:Value} {xs:List Value} (h:w.ownsRow lo e size v n xs) (hc:aN F w w') (ho:Only w F S) (he:(e+2)∉S):w'.ownsRow lo e size v n xs :=
 hc.own h (fun g hg hf=>he (ho g hf _ (gJ h hg)))
theorem aU.only {F:Nat→Prop} {w w':World} {S:List Nat} {b:Nat} {T:TypeId} {xs:List Value} (h:aU w b T xs) (hc:aN F w w') (ho:Only w F S) (he:(T+2)∉S):aU w' b T xs :=
 h.fZ hc (fun hf=>he (ho b hf _ h.tag))
theorem fQ.only {F:Nat→Prop} {w w':World} {S:List Nat} {lo:Nat} {lv:Value} {X:List bY} (h:fQ w lo lv X) (hc:aN F w w') (ho:Only w F S) (h1:(135 + 2)∉S) (h2:(278 + 2)∉S) (h3:(131 + 2)∉S):fQ w' lo lv X :=
 ⟨jJ h.own hc ho h1,fun x hx=>⟨jJ (h.nest x hx).f hc ho h2,jJ (h.nest x hx).n hc ho h3⟩⟩
theorem qJ.only {F:Nat→Prop} {w w':World} {S:List Nat} {lo:Nat} {v:Value} {Bs:List Nat} (h:qJ w lo v Bs) (hc:aN F w w') (ho:Only w F S) (h1:(166 + 2)∉S) (h2:(203 + 2)∉S):qJ w' lo v Bs :=
 ⟨jJ h.row hc ho h1,fun i hi=>by
  obtain⟨xs,hx,hr⟩:=h.each i hi
  exact⟨xs,hx.only hc ho h2,hr⟩⟩
theorem xW.only {F:Nat→Prop} {w w':World} {S:List Nat} {lo:Nat} {v:Value} {Bs:List Nat} (h:xW w lo v Bs) (hc:aN F w w') (ho:Only w F S) (h1:(168 + 2)∉S) (h2:(209 + 2)∉S):xW w' lo v Bs :=
 ⟨jJ h.row hc ho h1,fun i hi=>by
  obtain⟨xs,hx,hr⟩:=h.each i hi
  exact⟨xs,hx.only hc ho h2,hr⟩⟩
theorem iD.only {F:Nat→Prop} {w w':World} {S:List Nat} {lo:Nat} {v:Value} {Ts:List dU} (h:iD w lo v Ts) (hc:aN F w w') (ho:Only w F S) (h1:(136 + 2)∉S) (h2:(138 + 2)∉S) (h3:(97 + 2)∉S):iD w' lo v Ts :=
 h.fZ hc (fun k hk hf=>by
  rcases hk with hk | ⟨t,ht,rfl | hk⟩
  ·exact h1 (ho k hf _ (gJ h.row hk))
  ·exact h2 (ho _ hf _ (h.each t ht).tag)
  ·exact h3 (ho k hf _ (gJ (h.kept t ht).1 hk)))
theorem Only.nG {w:World} {k t:Nat} {S:List Nat} (h:Tag w k t) (hS:t∈S):Only w (fun i=>i=k) S:=fun i hi u hu=>by
 subst hi
 rw[hu.uniq h];exact hS
theorem Only.or {w:World} {F G:Nat→Prop} {S:List Nat} (h:Only w F S) (h':Only w G S):Only w (fun k=>F k∨G k) S:=fun k hk t ht=>hk.elim (fun e=>h k e t ht) (fun e=>h' k e t ht)
theorem Only.own {w:World} {S:List Nat} {lo:Nat} {e:TypeId} {size n:Nat} {v:Value} {xs:List Value} (h:w.ownsRow lo e size v n xs) (hS:(e+2)∈S):Only w (fun k=>v.ownBlock=some k) S:=fun k hk t ht=>by
 rw[ht.uniq (gJ h hk)];exact hS
theorem Env.fZ {F:Nat→Prop} {w w':World} (h:Env w) (hc:aN F w w') (hF:∀ k,F k→Own k):Env w':=by
 have hv:=h.v
 obtain⟨te,pe,h1⟩:=hv.sx
 obtain⟨tf,pf,h2⟩:=hv.rg
 have l1:=hv.X7
 have l2:=hv.X8
 refine⟨⟨⟨te,pe,(hc.cell l1 (fun e=>(hF _ e).1 rfl)).trans h1⟩,⟨tf,pf,(hc.cell l2 (fun e=>(hF _ e).2.1 rfl)).trans h2⟩,Nat.lt_of_lt_of_le l1 hc.size,Nat.lt_of_lt_of_le l2 hc.size⟩,?_,Nat.lt_of_lt_of_le h.lt hc.size⟩
 have:=h.t
 unfold Lib.TabIs World.var? at this ⊢
 rw[gTab] at this ⊢
 simp only[Option.bind_some] at this ⊢
 rw[hc.block _ h.lt (fun e=>(hF _ e).2.2 rfl)]
 exact this
def Ti (p:gG) (k:Nat):Nat:=if k=0 then p.token else if k=1 then p.session else if k=2 then p.number else p.position
def vF (p:gG):Nat→List UInt8
 | 0=>[p.kind.toUInt8]
 | k+1=>vF p k++bU (Ti p k)
def iL (p:gG):List UInt8:=vF p 4++p.data.toList
structure yY (p:gG):Prop where
 k:p.kind<256
 t:p.token<18446744073709551616
 s:p.session<18446744073709551616
 n:p.number<18446744073709551616
 po:p.position<18446744073709551616
 d:p.data.size≤1000
theorem yY.at {p:gG} (h:yY p) (k:Nat):Ti p k<18446744073709551616:=by
 unfold Ti
 split
 ·exact h.t
 ·split
  ·exact h.s
  ·split
   ·exact h.n
   ·exact h.po
theorem wu {p:gG} (h:yY p):∀ k,(vF p k).length≤1+10*k
 | 0=>by simp[vF]
 | k+1=>by
  have:=wu h k
  have:=lT (Ti p k) (h.at k)
  simp only[vF,List.length_append]
  omega
theorem yZ (w:World) {ops:Array Oper} {rest:List Oper} {o:Oper} {a:Act} {Q:Exit→Act→World→Prop} (hgd:o.guard=none) (sl x:Operand)
  (ho:o.op=.call { callee:=.builtin .append,args:=#[sl,x],argTypes:=#[97,9] }) (v:Value) (L:List UInt8) (lo:Nat) (hs:a.eval sl=v) (hP:gB w lo v L) (s:ByteArray) (hx:a.eval x=.string s) (hl:L.length+s.size≤1000000000) (hlo:lo≤w.heap.size) (M:List UInt8) (hM:L++s.toList=M)
  (h:∀ a' c' w',gB w' lo (.slice a' M.length c') M→aN (fun k=>v.ownBlock=some k) w w'→wpList Tryz.prog ops Q rest (a.put o.dst (.slice a' M.length c')) w'):wpList Tryz.prog ops Q (o::rest) a w:=by
 obtain⟨iI,wX,hI0,hI1,hI2⟩:=info_parts Tryz.infoByte
 subst hM
 have hsl:s.toList.length=s.size:=by rw[ByteArray.toList_eq];rfl
 refine Lib.wpList_append_own_string w hgd sl x 97 9 ho lo 5 iI underlying97 underlying9 wX hI0 hI1 hI2 v L.length (L.map eG) hs hP s hx (by unfold maxLen;omega) (by omega) hlo ?_
 intro v' w' ho' hg' _
 rw[xP,← List.map_append,← hsl,← List.length_append] at ho'
 obtain⟨a',c',rfl⟩:=ak ho'
 exact h a' c' w' ho' ⟨hg'.os,hg'.tape,hg'.output,hg'.size,fun k hk hf=>hg'.block k hk (fun e=>hf e.symm)⟩
theorem write_any (w:World) (p:gG) (hp:yY p) :
  Calls Tryz.prog 108 #[.agg #[.int .u8 p.kind,.int .u64 p.token,.int .u64 p.session,.int .u64 p.number,.int .u64 p.position,.string p.data]] w (fun e w'=>∃ a c,e=.returned (.slice a (iL p).length c)∧gB w' w.heap.size (.slice a (iL p).length c) (iL p)∧Below w.heap.size w w'):=by
 have HP:=hid hp
 have hB0:aU (w.alloc (.cells #[.int .u8 p.kind,.int .u64 p.token,.int .u64 p.session,.int .u64 p.number,.int .u64 p.position,.string p.data] 162)) w.heap.size 162 [.int .u8 p.kind,.int .u64 p.token,.int .u64 p.session,.int .u64 p.number,.int .u64 p.position,.string p.data]:=heap_alloc_new w _
 have hb0:Below w.heap.size w (w.alloc (.cells #[.int .u8 p.kind,.int .u64 p.token,.int .u64 p.session,.int .u64 p.number,.int .u64 p.position,.string p.data] 162)):=(Below.refl _ _).alloc (Nat.le_refl _) _
 obtain⟨w0,hw0⟩:∃ w0,w.alloc (.cells #[.int .u8 p.kind,.int .u64 p.token,.int .u64 p.session,.int .u64 p.number,.int .u64 p.position,.string p.data] 162)=w0:=⟨_,rfl⟩
 rw[hw0] at hB0 hb0
 have hz0:=hB0.lt
 have hb1:Below w0.heap.size w0 (w0.alloc (.cells #[.int .u8 p.kind] 5)):=(Below.refl _ _).alloc (Nat.le_refl _) _
 have hD1:=mP w0 p.kind.toUInt8 (p.kind:Int) (by rw[show p.kind.toUInt8.toNat=p.kind by simp[Nat.toUInt8,UInt8.toNat_ofNat'];have:=hp.k;omega])
 have hB1:=hB0.below hb1
 have hz1:(w0.alloc (.cells #[.int .u8 p.kind] 5)).heap.size=w0.heap.size+1:=by simp
 obtain⟨w1,hw1⟩:∃ w1,w0.alloc (.cells #[.int .u8 p.kind] 5)=w1:=⟨_,rfl⟩
 rw[hw1] at hb1 hD1 hB1 hz1
 have e0:w0.cell? ⟨w.heap.size,0,none⟩=some (.int .u8 p.kind):=hB0.cell 0
 have e1:w1.cell? ⟨w.heap.size,1,none⟩=some (.int .u64 p.token):=hB1.cell 1
 have e2:w1.cell? ⟨w.heap.size,2,none⟩=some (.int .u64 p.session):=hB1.cell 2
 have e3:w1.cell? ⟨w.heap.size,3,none⟩=some (.int .u64 p.number):=hB1.cell 3
 have e4:w1.cell? ⟨w.heap.size,4,none⟩=some (.int .u64 p.position):=hB1.cell 4
 have hb2:Below w1.heap.size w1 (w1.alloc (.cells #[.int .u64 p.token,.int .u64 p.session,.int .u64 p.number,.int .u64 p.position] 22)):=(Below.refl _ _).alloc (Nat.le_refl _) _
 have Uf:aU (w1.alloc (.cells #[.int .u64 p.token,.int .u64 p.session,.int .u64 p.number,.int .u64 p.position] 22)) w1.heap.size 22 [.int .u64 p.token,.int .u64 p.session,.int .u64 p.number,.int .u64 p.position]:=heap_alloc_new w1 _
 have hB2:=hB1.below hb2
 have hD2:=hD1.same hb2
 obtain⟨w2,hw2⟩:∃ w2,w1.alloc (.cells #[.int .u64 p.token,.int .u64 p.session,.int .u64 p.number,.int .u64 p.position] 22)=w2:=⟨_,rfl⟩
 rw[hw2] at hb2 Uf hB2 hD2
 have iV:Below w.heap.size w w2:=hb0.trans ((hb1.mono hb0.size).trans (hb2.mono (by omega)))
 have HB2:=hid hB2
 have XI:=hid Uf
 have HD2:=hid hD2
 have hz2:=Uf.lt
 have HZ1:=hid hz1
 clear hB0 hB1 hB2 hD1 hD2 Uf hz1 hp hb0 hb1 hb2
 go_enter func108,ntmps108
 go_wp2_with fail
 go_loopg [3,5,19] 4 (fun gk d x i wr=>∃ k:Nat,k+gk=4∧i=.int .i64 k∧Hid (gB wr w.heap.size d (vF p k))∧Hid (∀ j,d.ownBlock=some j→j≠w.heap.size∧j≠w1.heap.size)∧Hid (aU wr w.heap.size 162 [.int .u8 p.kind,.int .u64 p.token,.int .u64 p.session,.int .u64 p.number,.int .u64 p.position,.string p.data])∧Hid (aU wr w1.heap.size 22 [.int .u64 p.token,.int .u64 p.session,.int .u64 p.number,.int .u64 p.position])∧Below w.heap.size w wr)
 case atStart=>exact⟨0,by omega,rfl,hid (own_base HD2.out (by omega)),hid (fun j hj=>by simp[Value.ownBlock] at hj;have:=HZ1.out;omega),HB2,XI,iV⟩
 case round=>
  obtain⟨k,hk,rfl,HD,HF,HB,HNn,hbel⟩:=hrel
  have hzr:=hbel.size
  have hlen:=wu HP.out k
  obtain⟨w3,hw3⟩:∃ w3,w3=wr:=⟨_,rfl⟩
  subst hw3
  obtain⟨gk2,af9⟩:∃ g,g=gk:=⟨_,rfl⟩
  subst af9
  by_cases hlt:k<4
  ·have hck:w3.cell? ⟨w1.heap.size,k,none⟩=some (.int .u64 (Ti p k:Nat)):=by
    rw[HNn.out.cell]
    have:k=0∨k=1∨k=2∨k=3:=by omega
    rcases this with rfl | rfl | rfl | rfl<;>rfl
   obtain⟨N,HNk⟩:∃ N,Hid (Ti p k=N):=⟨_,hid rfl⟩
   rw[HNk.out] at hck
   have hNl:N<18446744073709551616:=by rw[← HNk.out];exact HP.out.at k
   have oM:(k:Int)<4:=by omega
   go_wp2_with fail
   refine(jL w3 w.heap.size _ (vF p k) N HD.out hNl (by omega) hzr).mono ?_;rintro e w4 ⟨a4,c4,rfl,hB4,hg4⟩
   obtain⟨M,HM⟩:∃ M,Hid (vF p k++bU N=M):=⟨_,hid rfl⟩
   rw[HM.out] at hB4 hg4
   rw[HM.out]
   have hc4:=aN.grew (F:=fun j=>(u3:Value).ownBlock=some j) hg4 (fun j hj=>hj)
   have HB4:=hid (HB.out.fZ hc4 (fun e=>(HF.out _ e).1 rfl))
   have XG:=hid (HNn.out.fZ hc4 (fun e=>(HF.out _ e).2 rfl))
   have hl1:=HNn.out.lt
   have hl0:=HB.out.lt
   have HF4:Hid (∀ j,(Value.slice a4 M.length c4).ownBlock=some j→j≠w.heap.size∧j≠w1.heap.size):=fun j hj=>by
    rcases hg4.b j hj with e | e
    ·exact HF.out j e
    ·omega
   have JJ:Below w.heap.size w w4:=hbel.trans (hg4.below (fun j hj=>(HD.out.lt j hj).1) hzr)
   have HD4:=hid hB4
   clear hB4 hg4 hc4 hck
   go_wp2_with fail
   go_roundg (gk2-1)
   case rel=>exact⟨k+1,by omega,by go_num,hid (by rw[vF,HNk.out,HM.out];exact HD4.out),HF4,HB4,XG,JJ⟩
   case measure=>omega
  ·obtain rfl:k=4:=by omega
   have e5:w3.cell? ⟨w.heap.size,5,none⟩=some (.string p.data):=HB.out.cell 5
   have hd:=HP.out.d
   go_wp2_with (at_builtin;refine yZ _ rfl (.tmp 27) (.tmp 29) rfl _ (vF p 4) w.heap.size rfl HD.out p.data rfl (by omega) hzr (iL p) rfl ?_)
   intro a4 c4 w4 hB4 hc4
   have JJ:Below w.heap.size w w4:=hbel.trans (hc4.below hzr (fun j hj=>(HD.out.lt j hj).1))
   have HB4:=hid hB4
   clear hB4 hc4
   go_wp2_with fail
   go_ret
   exact⟨a4,c4,rfl,HB4.out,JJ⟩
def Ez (w:World) (q:Nat):Nat:=match w.heap[q]? with | some (.chan _ buf _ _ _ _)=>buf.size | _=>0
theorem xC (p:gG):1≤(iL p).length:=by simp[iL,vF]
theorem GV {w:World} {q:Nat} {L:List gG} (h:wB w q L):Ez w q=L.length:=by
 obtain⟨s,r,h⟩:=h
 unfold Ez
 rw[h]
 simp
def agb (w0:World) (b:Nat) (T:TypeId) (i0 i1 i2 i3:Value) (last:Int) (had up:Bool) (tl:List Value) (L:List gG) (q m:Nat) (a:Act) (w:World):Prop:=∃ (v u4 u5 u6 u7 u8 u9 u10 u11 u12 u13 u14 u15 u16 u17 u18 u19 u20 u21 u22 u23 u24 u25 u26 u27 u28 u29 u30:Value) (vs:List Value) (D R:List gG),a = { tmps:=#[.pointer (some ⟨b,0,none⟩),undef,.slice none 0 0,v,u4,u5,u6,u7,u8,u9,u10,u11,u12,u13,u14,u15,u16,u17,u18,u19,u20,u21,u22,u23,u24,u25,u26,u27,u28,u29,u30],defers:=[] } ∧ D++R=L∧aW w b T i0 i1 i2 i3 last had up tl R q m∧Ia w w0.heap.size v vs (D.map (fun p=>aS bK (iL p)))∧aN (fun k=>k=q∨k=m) w0 w
theorem Qr (w:World) (b:Nat) (T:TypeId) (i0 i1 i2 i3:Value) (last:Int) (had up:Bool) (tl:List Value) (L:List gG) (q m:Nat) (h:aW w b T i0 i1 i2 i3 last had up tl L q m) (hL:∀ p∈L,yY p∧(iL p).length≤120) (h60:L.length≤60) :
  Calls Tryz.prog 74 #[.pointer (some ⟨b,0,none⟩)] w (fun e w'=>∃ v vs,e=.returned v∧aW w' b T i0 i1 i2 i3 last had up tl [] q m∧Ia w' w.heap.size v vs (L.map (fun p=>aS bK (iL p)))∧aN (fun k=>k=q∨k=m) w w'):=by
 refine xQ func74 rfl ?_
 simp only[ntmps74,List.size_toArray,List.length_cons,List.length_nil,Nat.reduceAdd,Nat.reduceSub,Array.replicate_succ,
   Array.replicate_zero,List.push_toArray,List.append_toArray,List.nil_append,List.cons_append]
 have H:=hid h
 clear h
 refine nS (fun K hK=>?_)
 go_wp2_with fail
 refine nS (fun K hK=>?_)
 go_wp2_with fail
 refine FU ?_
 refine Us (agb w b T i0 i1 i2 i3 last had up tl L q m) (fun _ w=>Ez w q) ⟨_,_,_,_,_,_,_,_,_,_,_,_,_,_,_,_,_,_,_,_,_,_,_,_,_,_,_,_,[],[],L,rfl,rfl,H.out,Ia.nil _ _,aN.refl _ _⟩ ?_
 rintro a w1 ⟨v,u4,u5,u6,u7,u8,u9,u10,u11,u12,u13,u14,u15,u16,u17,u18,u19,u20,u21,u22,u23,u24,u25,u26,u27,u28,u29,u30,vs,D,R,rfl,hDR,hE,YJ,hC⟩
 have d7:w1.cell? ⟨b,7,none⟩=some (.chan (some q)):=hE.blk.cell 7
 have HE:=hid hE
 obtain⟨Fs,HFs⟩:∃ Fs,Hid (D.map (fun p=>aS bK (iL p))=Fs):=⟨_,hid rfl⟩
 rw[HFs.out] at YJ
 have XC:Fs.length≤60:=by rw[← HFs.out,List.length_map];have:=congrArg List.length hDR;rw[List.length_append] at this;omega
 obtain⟨va,vc,rfl⟩:=ak YJ.own
 have HL:=hid YJ
 have HDR:=hid hDR
 clear hE YJ hDR
 refine FU ?_
 refine nS (fun K hK=>?_)
 go_wp2_with fail
 refine Ih ?_
 refine Cc ?_
 obtain⟨s,r,hq⟩:=HE.out.oD
 cases R with
 | nil=>
  refine Uw (c:=q) (cap:=60) (s:=s) (r:=r) (tm:=false) rfl rfl (by simp[go_sem,execOp,rcase,Act.eval];rfl) (by simpa using hq) ?_
  refine zq (v:=.int .i64 (-1)) (w':=w1) rfl rfl (by simp[go_sem,goInt]) ?_
  refine zq (v:=.bool false) (w':=w1) rfl rfl (by simp[go_sem]) ?_
  refine Ii ?_
  refine vM ?_
  go_wp2_with fail
  go_ret
  have hD:D=L:=by have:=HDR.out;simpa using this
  exact⟨_,vs,rfl,HE.out,by rw[← hD,HFs.out];exact HL.out,hC⟩
 | cons p R=>
  have hp:=hL p (by rw[← HDR.out];simp)
  have hv0:(((p::R).map pv).toArray).getD 0 undef=.agg #[.int .u8 p.kind,.int .u64 p.token,.int .u64 p.session,.int .u64 p.number,.int .u64 p.position,.string p.data]:=by simp[pv,pc]
  have hx0:(((p::R).map pv).toArray).extract 1 (((p::R).map pv).toArray).size=(R.map pv).toArray:=by simp[List.take_of_length_le]
  refine Uu (c:=q) (cap:=60) (buf:=((p::R).map pv).toArray) (s:=s) (r:=r) (tm:=false) rfl rfl (by simp[go_sem,execOp,rcase,Act.eval];rfl) hq (by simp) ?_
  rw[hv0,hx0]
  have hc2:aN (fun k=>k=q) w1 (w1.setChan q 60 (R.map pv).toArray false s (r+1) false):=(aN.refl _ _).setChan _ _ _ _ _ _ _ (fun _=>rfl)
  have hQ2:wB (w1.setChan q 60 (R.map pv).toArray false s (r+1) false) q R:=⟨s,r+1,heap_setChan _ _ _ _ _ _ _ _ HE.out.oD.lt⟩
  have hW2:=HE.out.pO.fZ hc2 (fun e=>HE.out.oD.gV HE.out.pO e.symm)
  have hB2:=HE.out.blk.fZ hc2 (HE.out.blk.lK HE.out.oD)
  obtain⟨w2,hw2⟩:∃ w2,w1.setChan q 60 (R.map pv).toArray false s (r+1) false=w2:=⟨_,rfl⟩
  rw[hw2] at hc2 hQ2 hW2 hB2
  rw[hw2]
  refine zq (v:=.int .i64 0) (w':=w2) rfl rfl (by simp[go_sem,goInt]) ?_
  refine zq (v:=.bool true) (w':=w2) rfl rfl (by simp[go_sem]) ?_
  refine Ii ?_
  refine vM ?_
  have HB2:=hid hB2
  have HQ2:=hid hQ2
  have HW2:=hid hW2
  have HPp:=hid hp
  clear hB2 hQ2 hW2 hv0 hx0 hq hp hw2
  have hb3:Below w2.heap.size w2 (w2.alloc (.cells #[.int .u8 p.kind,.int .u64 p.token,.int .u64 p.session,.int .u64 p.number,.int .u64 p.position,.string p.data] 162)):=(Below.refl _ _).alloc (Nat.le_refl _) _
  have YK:aU (w2.alloc (.cells #[.int .u8 p.kind,.int .u64 p.token,.int .u64 p.session,.int .u64 p.number,.int .u64 p.position,.string p.data] 162)) w2.heap.size 162 [.int .u8 p.kind,.int .u64 p.token,.int .u64 p.session,.int .u64 p.number,.int .u64 p.position,.string p.data]:=heap_alloc_new w2 _
  have hW3:=HW2.out.fZ (F:=fun _=>False) (aN.of_below hb3) id
  have hQ3:=HQ2.out.fZ (F:=fun _=>False) (aN.of_below hb3) id
  have hB3:=HB2.out.below hb3
  go_wp2_with fail
  obtain⟨w3,hw3⟩:∃ w3,w2.alloc (.cells #[.int .u8 p.kind,.int .u64 p.token,.int .u64 p.session,.int .u64 p.number,.int .u64 p.position,.string p.data] 162)=w3:=⟨_,rfl⟩
  rw[hw3] at hb3 YK hW3 hQ3 hB3
  rw[hw3]
  have d8:w3.cell? ⟨b,8,none⟩=some (.map (some m)):=hB3.cell 8
  have e0:w3.cell? ⟨w2.heap.size,0,none⟩=some (.int .u8 p.kind):=YK.cell 0
  have e1:w3.cell? ⟨w2.heap.size,1,none⟩=some (.int .u64 p.token):=YK.cell 1
  have e2:w3.cell? ⟨w2.heap.size,2,none⟩=some (.int .u64 p.session):=YK.cell 2
  have e3:w3.cell? ⟨w2.heap.size,3,none⟩=some (.int .u64 p.number):=YK.cell 3
  have e4:w3.cell? ⟨w2.heap.size,4,none⟩=some (.int .u64 p.position):=YK.cell 4
  have e5:w3.cell? ⟨w2.heap.size,5,none⟩=some (.string p.data):=YK.cell 5
  have hdel:∀ ty,(Builtin.delete_ #[63,162] ty #[.map (some m),.agg #[.int .u8 p.kind,.int .u64 p.token,.int .u64 p.session,.int .u64 p.number,.int .u64 p.position,.string p.data]]).run Tryz.prog w3.drew=.ok (.tuple #[]) (qI w3.drew m):=fun ty=>ND (w:=w3.drew) hW3 ty
  have HX3:=hid YK
  have HW3:=hid hW3
  have Uc:=hid hQ3
  have HB3:=hid hB3
  have hml:=HW2.out.lt
  have hz3:=hb3.size
  clear YK hW3 hQ3 hB3 hw3
  go_region
  all_goals
   obtain⟨w4,hw4⟩:∃ w4,qI w3.drew m=w4:=⟨_,rfl⟩
   rw[hw4]
   have hc4:aN (fun k=>k=m) w3 w4:=by rw[← hw4];exact((aN.refl _ w3).drew).same (JO _ m rfl)
   have HW4:Hid (Waits w4 m R):=by rw[← hw4];exact Fa (w:=w3.drew) HW3.out
   have ZP:=hid (Uc.out.fZ hc4 (Uc.out.gV HW3.out))
   have HB4:=hid (HB3.out.fZ hc4 (HB3.out.gV HW3.out))
   have hX4:=HX3.out.fZ hc4 (by show ¬ w2.heap.size=m;omega)
   have f0:w4.cell? ⟨w2.heap.size,0,none⟩=some (.int .u8 p.kind):=hX4.cell 0
   have f1:w4.cell? ⟨w2.heap.size,1,none⟩=some (.int .u64 p.token):=hX4.cell 1
   have f2:w4.cell? ⟨w2.heap.size,2,none⟩=some (.int .u64 p.session):=hX4.cell 2
   have f3:w4.cell? ⟨w2.heap.size,3,none⟩=some (.int .u64 p.number):=hX4.cell 3
   have f4:w4.cell? ⟨w2.heap.size,4,none⟩=some (.int .u64 p.position):=hX4.cell 4
   have f5:w4.cell? ⟨w2.heap.size,5,none⟩=some (.string p.data):=hX4.cell 5
   have JQ:=hc4.size
   clear hw4 hdel hX4 d8 e0 e1 e2 e3 e4 e5
   go_wp2_with fail
   refine(write_any w4 p HPp.out.1).mono ?_;rintro e w5 ⟨da,dc,rfl,hD5,hb5⟩
   have HD5:=hid hD5
   clear hD5 f0 f1 f2 f3 f4 f5
   go_wp2_with fail
   refine(wrap_any w5 _ (iL p) HD5.out.rd (by unfold maxLen;have:=HPp.out.2;omega)).mono ?_;rintro e w6 ⟨hb6,hm6⟩
   have hok:okB (iL p).length=true:=jk.2 ⟨xC p,HPp.out.2⟩
   rw[hok] at hm6
   simp only[cond_true] at hm6
   obtain⟨fa,fc,rfl,hF6⟩:=hm6
   obtain⟨FP,HFP⟩:∃ FP,Hid (aS bK (iL p)=FP):=⟨_,hid rfl⟩
   rw[HFP.out] at hF6
   rw[HFP.out]
   have HF6:=hid hF6
   have JD:=hb5.size
   have hz6:=hb6.size
   have hz2:=hc2.size
   have hzC:=hC.size
   have hq0:=H.out.oD.lt
   have hm0:=H.out.pO.lt
   have aj1:=H.out.blk.lt
   have c16:aN (fun k=>k=q∨k=m) w1 w6:=(hc2.mono (fun i _ e=>Or.inl e)).same ((aN.of_below hb3).same ((hc4.mono (fun i _ e=>Or.inr e)).same ((aN.of_below hb5).same (aN.of_below hb6))))
   have HS:Hid (∀ k,w.heap.size≤k→k<w1.heap.size→w6.heap[k]? = w1.heap[k]?):=fun k h1 h2=>c16.block k h2 (fun e=>by rcases e with rfl | rfl<;>omega)
   have HL6:=hid (HL.out.same HS.out)
   clear hF6 hok
   go_wp2_with (at_builtin;refine fB _ rfl (.tmp 27) (.tmp 29) 103 97 _ 1 24 rfl underlying103 Tryz.infoBytes rfl (by decide) _ Fs.length vs w.heap.size rfl (HL6.out.own.alloc _) _ 1 1 [.slice fa FP.length fc] rfl rfl (Un _ _ _) FQ (Fs.length+1) rfl _ rfl (by unfold maxLen;omega) (by omega) (by simp;omega) ?_)
   intro a7 c7 w7 XM YL
   have hal:Below w6.heap.size w6 (w6.alloc (.cells #[.slice fa FP.length fc] 97)):=(Below.refl _ _).alloc (Nat.le_refl _) _
   have HL7:=hid (HL.out.push (own_base (HF6.out.same hal) (by omega)) (fun k h1 h2=>(hal.block k (by omega)).trans (HS.out k h1 h2)) hzC XM YL)
   have c47:aN (fun k=>w.heap.size≤k) w4 w7:=(aN.of_below hb5).same ((aN.of_below hb6).same ((aN.of_below hal).same (aN.grew YL (fun k hk=>(HL6.out.own.lt k hk).1))))
   have HE7:=hid (show aW w7 b T i0 i1 i2 i3 last had up tl R q m from⟨HB4.out.fZ c47 (by omega),ZP.out.fZ c47 (by omega),HW4.out.fZ c47 (by omega)⟩)
   have hC7:aN (fun k=>k=q∨k=m) w w7:=(hC.same ((hc2.mono (fun i _ e=>Or.inl e)).same ((aN.of_below hb3).same (hc4.mono (fun i _ e=>Or.inr e))))).trans c47 (fun i hi hh=>by omega)
   have HM:=hid (show Ez w7 q<Ez w1 q by rw[GV HE7.out.oD,GV HE.out.oD];simp)
   clear XM YL hal c47
   go_wp2_with fail
   (try simp only[Exit.inBlock,Exit.then])
   refine⟨⟨_,_,_,_,_,_,_,_,_,_,_,_,_,_,_,_,_,_,_,_,_,_,_,_,_,_,_,_,vs++[.slice fa FP.length fc],D++[p],R,rfl,by rw[← HDR.out];simp,HE7.out,?_,hC7⟩,HM.out⟩
   rw[List.map_append,HFs.out,List.map_singleton,HFP.out]
   exact HL7.out
structure jY where
 b:Nat
 q:Nat
 m:Nat
 last:Int
 had:Bool
 up:Bool
 token:Nat
 silence:Int
 asked:Value
 an:Nat
 ax:List Value
 streams:Value
 Bs:List Nat
 calls:Value
 Cs:List Nat
 L:List gG
 iv:Value
 X:List bY
structure Cl (w:World) (lo:Nat) (W D R:Int) (g:jY):Prop where
 e:aW w g.b 80 g.iv (.int .i64 W) (.int .i64 D) (.int .i64 R) g.last g.had g.up (jV g.token g.silence g.asked g.an g.streams g.Bs.length g.calls g.Cs.length) g.L g.q g.m
 a:w.ownsRow lo 162 6 g.asked g.an g.ax
 s:qJ w lo g.streams g.Bs
 c:xW w lo g.calls g.Cs
 i:fQ w lo g.iv g.X
 xo:Wp g.X
 xs:∀ x∈g.X,x.it.name.text.size≤400
 tot:g.an=g.Bs.length+g.Cs.length
 nb:g.Bs.length≤8
 nc:g.Cs.length≤8
 l:g.L=[]∨g.L=[qc g.token]
 lu:g.up=false→g.L=[]
 tk:g.token<18446744073709551616
 lb:lo≤g.b
 lq:lo≤g.q
 lm:lo≤g.m
def vG (g:jY) (k:Nat):Prop:=(((((k=g.b∨k=g.q)∨k=g.m)∨g.asked.ownBlock=some k)∨g.streams.ownBlock=some k)∨g.calls.ownBlock=some k)
def adi:List Nat:=[80 + 2,0,1,162 + 2,166 + 2,168 + 2]
theorem Cl.only {w:World} {lo:Nat} {W D R:Int} {g:jY} (h:Cl w lo W D R g):Only w (vG g) adi :=
 (((((Only.nG h.e.blk.tag (by decide)).or (Only.nG h.e.oD.tag (by decide))).or (Only.nG h.e.pO.tag (by decide))).or (Only.own h.a (by decide))).or (Only.own h.s.row (by decide))).or (Only.own h.c.row (by decide))
theorem Cl.low {w:World} {lo:Nat} {W D R:Int} {g:jY} (h:Cl w lo W D R g) {k:Nat} (hk:vG g k):lo≤k:=by
 rcases hk with((((rfl | rfl) | rfl) | hk) | hk) | hk
 ·exact h.lb
 ·exact h.lq
 ·exact h.lm
 ·exact(h.a.lt k hk).1
 ·exact(World.ownsRow.lt h.s.row k hk).1
 ·exact(World.ownsRow.lt h.c.row k hk).1
theorem Cl.len {w:World} {lo:Nat} {W D R:Int} {g:jY} (h:Cl w lo W D R g):g.L.length≤1:=by rcases h.l with h | h<;>rw[h]<;>simp
theorem GX {up:Bool} {L:List gG} {p:gG} (h:L=[]∨L=[p]):nN up L p=[]∨nN up L p=[p]:=by
 unfold nN
 rcases h with rfl | rfl
 ·split<;>simp
 ·simp
theorem EC {up:Bool} {L:List gG} {p:gG} (h:up=false→L=[]) (e:up=false):nN up L p=[]:=by
 unfold nN
 rw[if_neg (by rw[e];simp)]
 exact h e
theorem Cl.keep {F:Nat→Prop} {w w':World} {lo:Nat} {W D R:Int} {g:jY} {S:List Nat} (h:Cl w lo W D R g) (hc:aN F w w') (ho:Only w F S) (hS:∀ t∈[80 + 2,162 + 2,166 + 2,168 + 2,203 + 2,209 + 2,135 + 2,278 + 2,131 + 2],t∉S) (hq:¬ F g.q) (hm:¬ F g.m):Cl w' lo W D R g :=
 {h with
  e:=⟨h.e.blk.only hc ho (hS _ (by decide)),h.e.oD.fZ hc hq,h.e.pO.fZ hc hm⟩
  a:=jJ h.a hc ho (hS _ (by decide))
  s:=h.s.only hc ho (hS _ (by decide)) (hS _ (by decide))
  c:=h.c.only hc ho (hS _ (by decide)) (hS _ (by decide))
  i:=h.i.only hc ho (hS _ (by decide)) (hS _ (by decide)) (hS _ (by decide)) }
theorem Cl.below {w w':World} {lo:Nat} {W D R:Int} {g:jY} (h:Cl w lo W D R g) (hb:Below w.heap.size w w'):Cl w' lo W D R g :=
 h.keep (F:=fun _=>False) (S:=[]) (aN.of_below hb) (fun k hk=>hk.elim) (fun t _=>by simp) id id
theorem Cl.drew {w:World} {lo:Nat} {W D R:Int} {g:jY} (h:Cl w lo W D R g):Cl w.drew lo W D R g:=h.below (Below.refl _ _).drew
theorem Cl.turn {F:Nat→Prop} {w w':World} {lo:Nat} {W D R:Int} {g:jY} (h:Cl w lo W D R g) (hc:aN F w w') (hF:∀ k,F k→k=g.b∨k=g.q∨k=g.m) {last':Int} {WH up':Bool} {sil:Int} {L':List gG} {q' m':Nat}
  (he:aW w' g.b 80 g.iv (.int .i64 W) (.int .i64 D) (.int .i64 R) last' WH up' (jV g.token sil g.asked g.an g.streams g.Bs.length g.calls g.Cs.length) L' q' m') (hl:L'=[]∨L'=[qc g.token]) (WI:up'=false→L'=[]) (hq:q'=g.q∨w.heap.size≤q') (hm:m'=g.m∨w.heap.size≤m') :
  Cl w' lo W D R { g with last:=last',had:=WH,up:=up',silence:=sil,L:=L',q:=q',m:=m' }:=by
 have ho:Only w F [80 + 2,0,1]:=fun k hk t ht=>by
  rcases hF k hk with rfl | rfl | rfl
  ·rw[ht.uniq h.e.blk.tag];decide
  ·rw[ht.uniq h.e.oD.tag];decide
  ·rw[ht.uniq h.e.pO.tag];decide
 have hbl:=h.e.blk.lt
 have hlb:=h.lb
 exact {
  e:=he
  a:=jJ h.a hc ho (by decide)
  s:=h.s.only hc ho (by decide) (by decide)
  c:=h.c.only hc ho (by decide) (by decide)
  i:=h.i.only hc ho (by decide) (by decide) (by decide)
  xo:=h.xo,xs:=h.xs,tot:=h.tot,nb:=h.nb,nc:=h.nc,l:=hl,lu:=WI,tk:=h.tk,lb:=h.lb
  lq:=by have:=h.lq;show lo≤q';rcases hq with hq | hq<;>omega
  lm:=by have:=h.lm;show lo≤m';rcases hm with hm | hm<;>omega }
structure GY (w:World) (g g':jY):Prop where
 q:g'.q=g.q∨w.heap.size≤g'.q
 m:g'.m=g.m∨w.heap.size≤g'.m
 b:g'.b=g.b
 iv:g'.iv=g.iv
 X:g'.X=g.X
 token:g'.token=g.token
structure lH where
 b:Nat
 q:Nat
 m:Nat
 last:Int
 had:Bool
 up:Bool
 aI:Value
 Ts:List dU
 ms:Nat
 mo:Nat
 L:List gG
 iv:Value
 X:List bY
 N:Nat
structure Sv (w:World) (lo:Nat) (W D:Int) (R:Nat) (g:lH):Prop where
 e:aW w g.b 75 g.iv (.int .i64 W) (.int .i64 D) (.int .i64 R) g.last g.had g.up (nT g.aI g.ms g.mo) g.L g.q g.m
 t:iD w lo g.aI g.Ts
 vs:Void w g.ms
 vo:Void w g.mo
 i:fQ w lo g.iv g.X
 xo:Wp g.X
 nt:g.Ts.length≤400
 kr:∀ t∈g.Ts,t.kv.length≤R∧t.count≤g.N
 l:g.L=[]∨g.L=[qW]
 lu:g.up=false→g.L=[]
 lb:lo≤g.b
 lq:lo≤g.q
 lm:lo≤g.m
 lms:lo≤g.ms
 lmo:lo≤g.mo
 n1:g.m≠g.ms
 n2:g.m≠g.mo
def qB (g:lH) (k:Nat):Prop:=((k=g.b∨k=g.q)∨k=g.m)∨BH g.aI g.Ts k
def ZC:List Nat:=[75 + 2,0,1,136 + 2,138 + 2,97 + 2]
theorem iD.Tj {w:World} {lo:Nat} {v:Value} {Ts:List dU} (h:iD w lo v Ts):Only w (BH v Ts) ZC:=fun k hk t ht=>by
 rcases hk with hk | ⟨x,hx,rfl | hk⟩
 ·rw[ht.uniq (gJ h.row hk)];decide
 ·rw[ht.uniq (h.each x hx).tag];decide
 ·rw[ht.uniq (gJ (h.kept x hx).1 hk)];decide
theorem Sv.only {w:World} {lo:Nat} {W D:Int} {R:Nat} {g:lH} (h:Sv w lo W D R g):Only w (qB g) ZC :=
 (((Only.nG h.e.blk.tag (by decide)).or (Only.nG h.e.oD.tag (by decide))).or (Only.nG h.e.pO.tag (by decide))).or h.t.Tj
theorem Sv.len {w:World} {lo:Nat} {W D:Int} {R:Nat} {g:lH} (h:Sv w lo W D R g):g.L.length≤1:=by rcases h.l with h | h<;>rw[h]<;>simp
theorem Sv.keep {F:Nat→Prop} {w w':World} {lo:Nat} {W D:Int} {R:Nat} {g:lH} {S:List Nat} (h:Sv w lo W D R g) (hc:aN F w w') (ho:Only w F S) (hS:∀ t∈[75 + 2,136 + 2,138 + 2,97 + 2,135 + 2,278 + 2,131 + 2],t∉S) (hq:¬ F g.q) (hm:¬ F g.m) (hs:¬ F g.ms) (hmo:¬ F g.mo):Sv w' lo W D R g :=
 {h with
  e:=⟨h.e.blk.only hc ho (hS _ (by decide)),h.e.oD.fZ hc hq,h.e.pO.fZ hc hm⟩
  t:=h.t.only hc ho (hS _ (by decide)) (hS _ (by decide)) (hS _ (by decide))
  vs:=h.vs.fZ hc hs
  vo:=h.vo.fZ hc hmo
  i:=h.i.only hc ho (hS _ (by decide)) (hS _ (by decide)) (hS _ (by decide)) }
theorem Sv.below {w w':World} {lo:Nat} {W D:Int} {R:Nat} {g:lH} (h:Sv w lo W D R g) (hb:Below w.heap.size w w'):Sv w' lo W D R g :=
 h.keep (F:=fun _=>False) (S:=[]) (aN.of_below hb) (fun k hk=>hk.elim) (fun t _=>by simp) id id id id
theorem Sv.turn {F:Nat→Prop} {w w':World} {lo:Nat} {W D:Int} {R:Nat} {g:lH} (h:Sv w lo W D R g) (hc:aN F w w') (hF:∀ k,F k→k=g.b∨k=g.q∨k=g.m) {last':Int} {WH up':Bool} {L':List gG} {q' m':Nat}
  (he:aW w' g.b 75 g.iv (.int .i64 W) (.int .i64 D) (.int .i64 R) last' WH up' (nT g.aI g.ms g.mo) L' q' m') (hl:L'=[]∨L'=[qW]) (WI:up'=false→L'=[]) (hq:q'=g.q∨w.heap.size≤q') (hm:m'=g.m∨w.heap.size≤m') :
  Sv w' lo W D R { g with last:=last',had:=WH,up:=up',L:=L',q:=q',m:=m' }:=by
 have ho:Only w F [75 + 2,0,1]:=fun k hk t ht=>by
  rcases hF k hk with rfl | rfl | rfl
  ·rw[ht.uniq h.e.blk.tag];decide
  ·rw[ht.uniq h.e.oD.tag];decide
  ·rw[ht.uniq h.e.pO.tag];decide
 have hbl:=h.e.blk.lt
 have hlb:=h.lb
 have hvs:=h.vs.lt
 have hvo:=h.vo.lt
 have hnF:∀ {k:Nat},Void w k→g.m≠k→¬ F k:=fun {k} hv hne hf=>by
  rcases hF k hf with rfl | rfl | rfl
  ·exact hv.Ij h.e.blk rfl
  ·exact hv.lK h.e.oD rfl
  ·exact hne rfl
 exact {
  e:=he
  t:=h.t.only hc ho (by decide) (by decide) (by decide)
  vs:=h.vs.fZ hc (hnF h.vs h.n1)
  vo:=h.vo.fZ hc (hnF h.vo h.n2)
  i:=h.i.only hc ho (by decide) (by decide) (by decide)
  xo:=h.xo,nt:=h.nt,kr:=h.kr,l:=hl,lu:=WI,lb:=h.lb,lms:=h.lms,lmo:=h.lmo
  lq:=by have:=h.lq;show lo≤q';rcases hq with hq | hq<;>omega
  lm:=by have:=h.lm;show lo≤m';rcases hm with hm | hm<;>omega
  n1:=by have:=h.n1;show m'≠g.ms;rcases hm with hm | hm<;>omega
  n2:=by have:=h.n2;show m'≠g.mo;rcases hm with hm | hm<;>omega }
structure GZ (w:World) (g g':lH):Prop where
 q:g'.q=g.q∨w.heap.size≤g'.q
 m:g'.m=g.m∨w.heap.size≤g'.m
 b:g'.b=g.b
 ms:g'.ms=g.ms
 mo:g'.mo=g.mo
 iv:g'.iv=g.iv
 X:g'.X=g.X
theorem nH (w:World) (s b:Nat) (hs:w.cell? ⟨s,0,none⟩=some (.pointer (some ⟨b,0,none⟩))) :
  Calls Tryz.prog 34 #[.pointer (some ⟨s,0,none⟩)] w (fun e w'=>e=.returned (.pointer (some ⟨b,0,none⟩))∧w'=w):=by
 go_enter func34,ntmps34
 go_wp2_with fail
 go_ret
 exact⟨rfl,rfl⟩
theorem lI (w:World) (s b:Nat) (hs:w.cell? ⟨s,0,none⟩=some (.pointer (some ⟨b,0,none⟩))) :
  Calls Tryz.prog 36 #[.pointer (some ⟨s,0,none⟩)] w (fun e w'=>e=.returned (.pointer (some ⟨b,0,none⟩))∧w'=w):=by
 go_enter func36,ntmps36
 go_wp2_with fail
 go_ret
 exact⟨rfl,rfl⟩
theorem agk (w:World) (s b:Nat) (hs:w.cell? ⟨s,0,none⟩=some (.pointer (some ⟨b,0,none⟩))) (conn:Int) (Q:Int→World→Prop) (hg:Calls Tryz.prog 65 #[.pointer (some ⟨b,0,none⟩),.int .i64 conn] w (fun e w'=>∃ z:Int,e=.returned (.int .i64 z)∧Q z w')) :
  Calls Tryz.prog 26 #[.pointer (some ⟨s,0,none⟩),.int .i64 conn] w (fun e w'=>∃ z:Int,e=.returned (.int .i64 z)∧Q z w'):=by
 have HS:=hid hs
 have HG:=hid hg
 clear hs hg
 go_enter func26,ntmps26
 go_wp2_with fail
 refine(nH _ s b HS.out).mono ?_;rintro e w1 ⟨rfl,rfl⟩
 go_wp2_with fail
 refine HG.out.mono ?_;rintro e w2 ⟨z,rfl,hQ⟩
 have HQ:=hid hQ
 clear hQ
 go_wp2_with fail
 go_ret
 exact⟨z,rfl,HQ.out⟩
theorem aaN (w:World) (s b:Nat) (hs:w.cell? ⟨s,0,none⟩=some (.pointer (some ⟨b,0,none⟩))) (conn:Int) (Q:Int→World→Prop) (hg:Calls Tryz.prog 67 #[.pointer (some ⟨b,0,none⟩),.int .i64 conn] w (fun e w'=>∃ z:Int,e=.returned (.int .i64 z)∧Q z w')) :
  Calls Tryz.prog 28 #[.pointer (some ⟨s,0,none⟩),.int .i64 conn] w (fun e w'=>∃ z:Int,e=.returned (.int .i64 z)∧Q z w'):=by
 have HS:=hid hs
 have HG:=hid hg
 clear hs hg
 go_enter func28,ntmps28
 go_wp2_with fail
 refine(nH _ s b HS.out).mono ?_;rintro e w1 ⟨rfl,rfl⟩
 go_wp2_with fail
 refine HG.out.mono ?_;rintro e w2 ⟨z,rfl,hQ⟩
 have HQ:=hid hQ
 clear hQ
 go_wp2_with fail
 go_ret
 exact⟨z,rfl,HQ.out⟩
theorem aaO (w:World) (s b:Nat) (hs:w.cell? ⟨s,0,none⟩=some (.pointer (some ⟨b,0,none⟩))) (Q:World→Prop) (hg:Calls Tryz.prog 35 #[.pointer (some ⟨b,0,none⟩)] w (fun e w'=>e=.returned (.tuple #[])∧Q w')) :
  Calls Tryz.prog 13 #[.pointer (some ⟨s,0,none⟩)] w (fun e w'=>e=.returned (.tuple #[])∧Q w'):=by
 have HS:=hid hs
 have HG:=hid hg
 clear hs hg
 go_enter func13,ntmps13
 go_wp2_with fail
 refine(nH _ s b HS.out).mono ?_;rintro e w1 ⟨rfl,rfl⟩
 go_wp2_with fail
 refine HG.out.mono ?_;rintro e w2 ⟨rfl,hQ⟩
 have HQ:=hid hQ
 clear hQ
 go_wp2_with fail
 go_end0
 exact⟨rfl,HQ.out⟩
theorem Tn (w:World) (s b:Nat) (hs:w.cell? ⟨s,0,none⟩=some (.pointer (some ⟨b,0,none⟩))) (conn:Int) (fa:Option Addr) (fl fc:Nat) (Q:Int→World→Prop) (hg:Calls Tryz.prog 68 #[.pointer (some ⟨b,0,none⟩),.int .i64 conn,.slice fa fl fc] w (fun e w'=>∃ z:Int,e=.returned (.int .i64 z)∧Q z w')) :
  Calls Tryz.prog 31 #[.pointer (some ⟨s,0,none⟩),.int .i64 conn,.slice fa fl fc] w (fun e w'=>∃ z:Int,e=.returned (.int .i64 z)∧Q z w'):=by
 have HS:=hid hs
 have HG:=hid hg
 clear hs hg
 go_enter func31,ntmps31
 go_wp2_with fail
 refine(nH _ s b HS.out).mono ?_;rintro e w1 ⟨rfl,rfl⟩
 go_wp2_with fail
 refine HG.out.mono ?_;rintro e w2 ⟨z,rfl,hQ⟩
 have HQ:=hid hQ
 clear hQ
 go_wp2_with fail
 go_ret
 exact⟨z,rfl,HQ.out⟩
theorem adk (w:World) (s b:Nat) (hs:w.cell? ⟨s,0,none⟩=some (.pointer (some ⟨b,0,none⟩))) (Q:Value→World→Prop) (hg:Calls Tryz.prog 74 #[.pointer (some ⟨b,0,none⟩)] w (fun e w'=>∃ (a:Option Addr) (n c:Nat),e=.returned (.slice a n c)∧Q (.slice a n c) w')) :
  Calls Tryz.prog 38 #[.pointer (some ⟨s,0,none⟩)] w (fun e w'=>∃ (a:Option Addr) (n c:Nat),e=.returned (.slice a n c)∧Q (.slice a n c) w'):=by
 have HS:=hid hs
 have HG:=hid hg
 clear hs hg
 go_enter func38,ntmps38
 go_wp2_with fail
 refine(nH _ s b HS.out).mono ?_;rintro e w1 ⟨rfl,rfl⟩
 go_wp2_with fail
 refine HG.out.mono ?_;rintro e w2 ⟨a,n,c,rfl,hQ⟩
 have HQ:=hid hQ
 clear hQ
 go_wp2_with fail
 go_ret
 exact⟨a,n,c,rfl,HQ.out⟩
theorem agl (w:World) (s b:Nat) (hs:w.cell? ⟨s,0,none⟩=some (.pointer (some ⟨b,0,none⟩))) (conn:Int) (Q:Int→World→Prop) (hg:Calls Tryz.prog 66 #[.pointer (some ⟨b,0,none⟩),.int .i64 conn] w (fun e w'=>∃ z:Int,e=.returned (.int .i64 z)∧Q z w')) :
  Calls Tryz.prog 27 #[.pointer (some ⟨s,0,none⟩),.int .i64 conn] w (fun e w'=>∃ z:Int,e=.returned (.int .i64 z)∧Q z w'):=by
 have HS:=hid hs
 have HG:=hid hg
 clear hs hg
 go_enter func27,ntmps27
 go_wp2_with fail
 refine(lI _ s b HS.out).mono ?_;rintro e w1 ⟨rfl,rfl⟩
 go_wp2_with fail
 refine HG.out.mono ?_;rintro e w2 ⟨z,rfl,hQ⟩
 have HQ:=hid hQ
 clear hQ
 go_wp2_with fail
 go_ret
 exact⟨z,rfl,HQ.out⟩
theorem aaP (w:World) (s b:Nat) (hs:w.cell? ⟨s,0,none⟩=some (.pointer (some ⟨b,0,none⟩))) (conn:Int) (Q:Int→World→Prop) (hg:Calls Tryz.prog 67 #[.pointer (some ⟨b,0,none⟩),.int .i64 conn] w (fun e w'=>∃ z:Int,e=.returned (.int .i64 z)∧Q z w')) :
  Calls Tryz.prog 29 #[.pointer (some ⟨s,0,none⟩),.int .i64 conn] w (fun e w'=>∃ z:Int,e=.returned (.int .i64 z)∧Q z w'):=by
 have HS:=hid hs
 have HG:=hid hg
 clear hs hg
 go_enter func29,ntmps29
 go_wp2_with fail
 refine(lI _ s b HS.out).mono ?_;rintro e w1 ⟨rfl,rfl⟩
 go_wp2_with fail
 refine HG.out.mono ?_;rintro e w2 ⟨z,rfl,hQ⟩
 have HQ:=hid hQ
 clear hQ
 go_wp2_with fail
 go_ret
 exact⟨z,rfl,HQ.out⟩
theorem aaQ (w:World) (s b:Nat) (hs:w.cell? ⟨s,0,none⟩=some (.pointer (some ⟨b,0,none⟩))) (Q:World→Prop) (hg:Calls Tryz.prog 37 #[.pointer (some ⟨b,0,none⟩)] w (fun e w'=>e=.returned (.tuple #[])∧Q w')) :
  Calls Tryz.prog 14 #[.pointer (some ⟨s,0,none⟩)] w (fun e w'=>e=.returned (.tuple #[])∧Q w'):=by
 have HS:=hid hs
 have HG:=hid hg
 clear hs hg
 go_enter func14,ntmps14
 go_wp2_with fail
 refine(lI _ s b HS.out).mono ?_;rintro e w1 ⟨rfl,rfl⟩
 go_wp2_with fail
 refine HG.out.mono ?_;rintro e w2 ⟨rfl,hQ⟩
 have HQ:=hid hQ
 clear hQ
 go_wp2_with fail
 go_end0
 exact⟨rfl,HQ.out⟩
theorem Tq (w:World) (s b:Nat) (hs:w.cell? ⟨s,0,none⟩=some (.pointer (some ⟨b,0,none⟩))) (conn:Int) (fa:Option Addr) (fl fc:Nat) (Q:Int→World→Prop) (hg:Calls Tryz.prog 69 #[.pointer (some ⟨b,0,none⟩),.int .i64 conn,.slice fa fl fc] w (fun e w'=>∃ z:Int,e=.returned (.int .i64 z)∧Q z w')) :
  Calls Tryz.prog 32 #[.pointer (some ⟨s,0,none⟩),.int .i64 conn,.slice fa fl fc] w (fun e w'=>∃ z:Int,e=.returned (.int .i64 z)∧Q z w'):=by
 have HS:=hid hs
 have HG:=hid hg
 clear hs hg
 go_enter func32,ntmps32
 go_wp2_with fail
 refine(lI _ s b HS.out).mono ?_;rintro e w1 ⟨rfl,rfl⟩
 go_wp2_with fail
 refine HG.out.mono ?_;rintro e w2 ⟨z,rfl,hQ⟩
 have HQ:=hid hQ
 clear hQ
 go_wp2_with fail
 go_ret
 exact⟨z,rfl,HQ.out⟩
theorem adl (w:World) (s b:Nat) (hs:w.cell? ⟨s,0,none⟩=some (.pointer (some ⟨b,0,none⟩))) (Q:Value→World→Prop) (hg:Calls Tryz.prog 74 #[.pointer (some ⟨b,0,none⟩)] w (fun e w'=>∃ (a:Option Addr) (n c:Nat),e=.returned (.slice a n c)∧Q (.slice a n c) w')) :
  Calls Tryz.prog 39 #[.pointer (some ⟨s,0,none⟩)] w (fun e w'=>∃ (a:Option Addr) (n c:Nat),e=.returned (.slice a n c)∧Q (.slice a n c) w'):=by
 have HS:=hid hs
 have HG:=hid hg
 clear hs hg
 go_enter func39,ntmps39
 go_wp2_with fail
 refine(lI _ s b HS.out).mono ?_;rintro e w1 ⟨rfl,rfl⟩
 go_wp2_with fail
 refine HG.out.mono ?_;rintro e w2 ⟨a,n,c,rfl,hQ⟩
 have HQ:=hid hQ
 clear hQ
 go_wp2_with fail
 go_ret
 exact⟨a,n,c,rfl,HQ.out⟩
theorem MO (w:World) (s b:Nat) (hs:w.cell? ⟨s,0,none⟩=some (.pointer (some ⟨b,0,none⟩))) (t:ByteArray) (u:ByteArray) (Q:Int→Int→World→Prop) (hg:Calls Tryz.prog 82 #[.pointer (some ⟨b,0,none⟩),.string t,.string u] w (fun e w'=>∃ n z:Int,e=.returned (.tuple #[.int .i64 n,.int .i64 z])∧Q n z w')) :
  Calls Tryz.prog 49 #[.pointer (some ⟨s,0,none⟩),.string t,.string u] w (fun e w'=>∃ n z:Int,e=.returned (.tuple #[.int .i64 n,.int .i64 z])∧Q n z w'):=by
 have HS:=hid hs
 have HG:=hid hg
 clear hs hg
 go_enter func49,ntmps49
 go_wp2_with fail
 refine(nH _ s b HS.out).mono ?_;rintro e w1 ⟨rfl,rfl⟩
 go_wp2_with fail
 refine HG.out.mono ?_;rintro e w2 ⟨n,z,rfl,hQ⟩
 have HQ:=hid hQ
 clear hQ
 go_wp2_with fail
 go_ret2
 exact⟨n,z,rfl,HQ.out⟩
theorem aaR (w:World) (s b:Nat) (hs:w.cell? ⟨s,0,none⟩=some (.pointer (some ⟨b,0,none⟩))) (t:ByteArray) (u:ByteArray) (Q:Int→Int→World→Prop) (hg:Calls Tryz.prog 85 #[.pointer (some ⟨b,0,none⟩),.string t,.string u] w (fun e w'=>∃ n z:Int,e=.returned (.tuple #[.int .i64 n,.int .i64 z])∧Q n z w')) :
  Calls Tryz.prog 52 #[.pointer (some ⟨s,0,none⟩),.string t,.string u] w (fun e w'=>∃ n z:Int,e=.returned (.tuple #[.int .i64 n,.int .i64 z])∧Q n z w'):=by
 have HS:=hid hs
 have HG:=hid hg
 clear hs hg
 go_enter func52,ntmps52
 go_wp2_with fail
 refine(nH _ s b HS.out).mono ?_;rintro e w1 ⟨rfl,rfl⟩
 go_wp2_with fail
 refine HG.out.mono ?_;rintro e w2 ⟨n,z,rfl,hQ⟩
 have HQ:=hid hQ
 clear hQ
 go_wp2_with fail
 go_ret2
 exact⟨n,z,rfl,HQ.out⟩
theorem aaS (w:World) (s b:Nat) (hs:w.cell? ⟨s,0,none⟩=some (.pointer (some ⟨b,0,none⟩))) (hsl:s<w.heap.size) (num:Int) (z:Int) (hg:∀ w0,Below w.heap.size w w0→Calls Tryz.prog 84 #[.pointer (some ⟨b,0,none⟩),.int .i64 num] w0 (fun e w'=>e=.returned (.tuple #[.agg #[.int .i64 0,.string ⟨#[]⟩,.string ⟨#[]⟩],.int .i64 z])∧Below w0.heap.size w0 w')) :
  Calls Tryz.prog 51 #[.pointer (some ⟨s,0,none⟩),.int .i64 num] w (fun e w'=>e=.returned (.tuple #[.agg #[.int .i64 0,.string ⟨#[]⟩,.string ⟨#[]⟩],.int .i64 z])∧Below w.heap.size w w'):=by
 have hb0:Below w.heap.size w (w.alloc (.cells #[.int .i64 0,.string ⟨#[]⟩,.string ⟨#[]⟩] 123)):=(Below.refl _ _).alloc (Nat.le_refl _) _
 have hB0:aU (w.alloc (.cells #[.int .i64 0,.string ⟨#[]⟩,.string ⟨#[]⟩] 123)) w.heap.size 123 [.int .i64 0,.string ⟨#[]⟩,.string ⟨#[]⟩]:=heap_alloc_new w _
 have hs0:=(hb0.cell (p:=⟨s,0,none⟩) hsl).trans hs
 have hz0:w.heap.size<(w.alloc (.cells #[.int .i64 0,.string ⟨#[]⟩,.string ⟨#[]⟩] 123)).heap.size:=by simp
 obtain⟨w0,hw0⟩:∃ w0,w.alloc (.cells #[.int .i64 0,.string ⟨#[]⟩,.string ⟨#[]⟩] 123)=w0:=⟨_,rfl⟩
 rw[hw0] at hb0 hB0 hs0 hz0
 have HS:=hid hs0
 have HG:=hid (hg w0 hb0)
 have HB0:=hid hB0
 clear hs hs0 hg hB0
 go_enter func51,ntmps51
 go_wp2_with fail
 refine(nH _ s b HS.out).mono ?_;rintro e w1 ⟨rfl,rfl⟩
 go_wp2_with fail
 refine HG.out.mono ?_;rintro e w2 ⟨rfl,hb2⟩
 have hB2:=HB0.out.below hb2
 have e0:w2.cell? ⟨w.heap.size,0,none⟩=some (.int .i64 0):=hB2.cell 0
 have e1:w2.cell? ⟨w.heap.size,1,none⟩=some (.string ⟨#[]⟩):=hB2.cell 1
 have e2:w2.cell? ⟨w.heap.size,2,none⟩=some (.string ⟨#[]⟩):=hB2.cell 2
 have g0:=hB2.frozen 0
 have g1:=hB2.frozen 1
 have g2:=hB2.frozen 2
 have hbB:Below w.heap.size w w2:=hb0.trans (hb2.mono hb0.size)
 have HL:=hid (jD _ _ _ _ _ (show aU (((w2.setCell ⟨w.heap.size,0,none⟩ (.int .i64 0)).setCell ⟨w.heap.size,1,none⟩ (.string ⟨#[]⟩)).setCell ⟨w.heap.size,2,none⟩ (.string ⟨#[]⟩)) w.heap.size 123 [.int .i64 0,.string ⟨#[]⟩,.string ⟨#[]⟩] from((hB2.set 0 _).set 1 _).set 2 _))
 have HB:=hid (((hbB.setCell (p:=⟨w.heap.size,0,none⟩) (Nat.le_refl _) (.int .i64 0)).setCell (p:=⟨w.heap.size,1,none⟩) (Nat.le_refl _) (.string ⟨#[]⟩)).setCell (p:=⟨w.heap.size,2,none⟩) (Nat.le_refl _) (.string ⟨#[]⟩))
 clear hB2
 go_wp2_with fail
 (try simp only[Exit.inBlock,Exit.then])
 refine⟨rfl,.tuple #[.agg #[.int .i64 0,.string ⟨#[]⟩,.string ⟨#[]⟩],.int .i64 z],?_,rfl,HB.out⟩
 rw[results_cell_tmp rfl]
 have:=HL.out
 simp[asAddr,this]
theorem WJ (w:World) (s b:Nat) (hs:w.cell? ⟨s,0,none⟩=some (.pointer (some ⟨b,0,none⟩))) (hsl:s<w.heap.size) (num:Int) (z:Int) (hg:∀ w0,Below w.heap.size w w0→Calls Tryz.prog 86 #[.pointer (some ⟨b,0,none⟩),.int .i64 num] w0 (fun e w'=>e=.returned (.tuple #[.agg #[.int .i64 0,.string ⟨#[]⟩,.string ⟨#[]⟩],.int .i64 z])∧Below w0.heap.size w0 w')) :
  Calls Tryz.prog 53 #[.pointer (some ⟨s,0,none⟩),.int .i64 num] w (fun e w'=>e=.returned (.tuple #[.agg #[.int .i64 0,.string ⟨#[]⟩,.string ⟨#[]⟩],.int .i64 z])∧Below w.heap.size w w'):=by
 have hb0:Below w.heap.size w (w.alloc (.cells #[.int .i64 0,.string ⟨#[]⟩,.string ⟨#[]⟩] 123)):=(Below.refl _ _).alloc (Nat.le_refl _) _
 have hB0:aU (w.alloc (.cells #[.int .i64 0,.string ⟨#[]⟩,.string ⟨#[]⟩] 123)) w.heap.size 123 [.int .i64 0,.string ⟨#[]⟩,.string ⟨#[]⟩]:=heap_alloc_new w _
 have hs0:=(hb0.cell (p:=⟨s,0,none⟩) hsl).trans hs
 have hz0:w.heap.size<(w.alloc (.cells #[.int .i64 0,.string ⟨#[]⟩,.string ⟨#[]⟩] 123)).heap.size:=by simp
 obtain⟨w0,hw0⟩:∃ w0,w.alloc (.cells #[.int .i64 0,.string ⟨#[]⟩,.string ⟨#[]⟩] 123)=w0:=⟨_,rfl⟩
 rw[hw0] at hb0 hB0 hs0 hz0
 have HS:=hid hs0
 have HG:=hid (hg w0 hb0)
 have HB0:=hid hB0
 clear hs hs0 hg hB0
 go_enter func53,ntmps53
 go_wp2_with fail
 refine(nH _ s b HS.out).mono ?_;rintro e w1 ⟨rfl,rfl⟩
 go_wp2_with fail
 refine HG.out.mono ?_;rintro e w2 ⟨rfl,hb2⟩
 have hB2:=HB0.out.below hb2
 have e0:w2.cell? ⟨w.heap.size,0,none⟩=some (.int .i64 0):=hB2.cell 0
 have e1:w2.cell? ⟨w.heap.size,1,none⟩=some (.string ⟨#[]⟩):=hB2.cell 1
 have e2:w2.cell? ⟨w.heap.size,2,none⟩=some (.string ⟨#[]⟩):=hB2.cell 2
 have g0:=hB2.frozen 0
 have g1:=hB2.frozen 1
 have g2:=hB2.frozen 2
 have hbB:Below w.heap.size w w2:=hb0.trans (hb2.mono hb0.size)
 have HL:=hid (jD _ _ _ _ _ (show aU (((w2.setCell ⟨w.heap.size,0,none⟩ (.int .i64 0)).setCell ⟨w.heap.size,1,none⟩ (.string ⟨#[]⟩)).setCell ⟨w.heap.size,2,none⟩ (.string ⟨#[]⟩)) w.heap.size 123 [.int .i64 0,.string ⟨#[]⟩,.string ⟨#[]⟩] from((hB2.set 0 _).set 1 _).set 2 _))
 have HB:=hid (((hbB.setCell (p:=⟨w.heap.size,0,none⟩) (Nat.le_refl _) (.int .i64 0)).setCell (p:=⟨w.heap.size,1,none⟩) (Nat.le_refl _) (.string ⟨#[]⟩)).setCell (p:=⟨w.heap.size,2,none⟩) (Nat.le_refl _) (.string ⟨#[]⟩))
 clear hB2
 go_wp2_with fail
 (try simp only[Exit.inBlock,Exit.then])
 refine⟨rfl,.tuple #[.agg #[.int .i64 0,.string ⟨#[]⟩,.string ⟨#[]⟩],.int .i64 z],?_,rfl,HB.out⟩
 rw[results_cell_tmp rfl]
 have:=HL.out
 simp[asAddr,this]
theorem Tt (w:World) (s b:Nat) (hs:w.cell? ⟨s,0,none⟩=some (.pointer (some ⟨b,0,none⟩))) (t:ByteArray) (u:ByteArray) (Q:Int→World→Prop) (hg:Calls Tryz.prog 76 #[.pointer (some ⟨b,0,none⟩),.string t,.string u] w (fun e w'=>∃ z:Int,e=.returned (.int .i64 z)∧Q z w')) :
  Calls Tryz.prog 42 #[.pointer (some ⟨s,0,none⟩),.string t,.string u] w (fun e w'=>∃ z:Int,e=.returned (.int .i64 z)∧Q z w'):=by
 have HS:=hid hs
 have HG:=hid hg
 clear hs hg
 go_enter func42,ntmps42
 go_wp2_with fail
 refine(lI _ s b HS.out).mono ?_;rintro e w1 ⟨rfl,rfl⟩
 go_wp2_with fail
 refine HG.out.mono ?_;rintro e w2 ⟨z,rfl,hQ⟩
 have HQ:=hid hQ
 clear hQ
 go_wp2_with fail
 go_ret
 exact⟨z,rfl,HQ.out⟩
theorem WL (w:World) (s b:Nat) (hs:w.cell? ⟨s,0,none⟩=some (.pointer (some ⟨b,0,none⟩))) (t:ByteArray) (Q:Int→World→Prop) (hg:Calls Tryz.prog 78 #[.pointer (some ⟨b,0,none⟩),.string t] w (fun e w'=>∃ z:Int,e=.returned (.int .i64 z)∧Q z w')) :
  Calls Tryz.prog 45 #[.pointer (some ⟨s,0,none⟩),.string t] w (fun e w'=>∃ z:Int,e=.returned (.int .i64 z)∧Q z w'):=by
 have HS:=hid hs
 have HG:=hid hg
 clear hs hg
 go_enter func45,ntmps45
 go_wp2_with fail
 refine(lI _ s b HS.out).mono ?_;rintro e w1 ⟨rfl,rfl⟩
 go_wp2_with fail
 refine HG.out.mono ?_;rintro e w2 ⟨z,rfl,hQ⟩
 have HQ:=hid hQ
 clear hQ
 go_wp2_with fail
 go_ret
 exact⟨z,rfl,HQ.out⟩
theorem aaT (w:World) (s b:Nat) (hs:w.cell? ⟨s,0,none⟩=some (.pointer (some ⟨b,0,none⟩))) (hsl:s<w.heap.size) (hg:∀ w0,Below w.heap.size w w0→Calls Tryz.prog 79 #[.pointer (some ⟨b,0,none⟩)] w0 (fun e w'=>e=.returned (.tuple #[.agg #[.int .i64 0,.string ⟨#[]⟩,.string ⟨#[]⟩],.bool false])∧Below w0.heap.size w0 w')) :
  Calls Tryz.prog 46 #[.pointer (some ⟨s,0,none⟩)] w (fun e w'=>e=.returned (.tuple #[.agg #[.int .i64 0,.string ⟨#[]⟩,.string ⟨#[]⟩],.bool false])∧Below w.heap.size w w'):=by
 have hb0:Below w.heap.size w (w.alloc (.cells #[.int .i64 0,.string ⟨#[]⟩,.string ⟨#[]⟩] 115)):=(Below.refl _ _).alloc (Nat.le_refl _) _
 have hB0:aU (w.alloc (.cells #[.int .i64 0,.string ⟨#[]⟩,.string ⟨#[]⟩] 115)) w.heap.size 115 [.int .i64 0,.string ⟨#[]⟩,.string ⟨#[]⟩]:=heap_alloc_new w _
 have hs0:=(hb0.cell (p:=⟨s,0,none⟩) hsl).trans hs
 have hz0:w.heap.size<(w.alloc (.cells #[.int .i64 0,.string ⟨#[]⟩,.string ⟨#[]⟩] 115)).heap.size:=by simp
 obtain⟨w0,hw0⟩:∃ w0,w.alloc (.cells #[.int .i64 0,.string ⟨#[]⟩,.string ⟨#[]⟩] 115)=w0:=⟨_,rfl⟩
 rw[hw0] at hb0 hB0 hs0 hz0
 have HS:=hid hs0
 have HG:=hid (hg w0 hb0)
 have HB0:=hid hB0
 clear hs hs0 hg hB0
 go_enter func46,ntmps46
 go_wp2_with fail
 refine(lI _ s b HS.out).mono ?_;rintro e w1 ⟨rfl,rfl⟩
 go_wp2_with fail
 refine HG.out.mono ?_;rintro e w2 ⟨rfl,hb2⟩
 have hB2:=HB0.out.below hb2
 have e0:w2.cell? ⟨w.heap.size,0,none⟩=some (.int .i64 0):=hB2.cell 0
 have e1:w2.cell? ⟨w.heap.size,1,none⟩=some (.string ⟨#[]⟩):=hB2.cell 1
 have e2:w2.cell? ⟨w.heap.size,2,none⟩=some (.string ⟨#[]⟩):=hB2.cell 2
 have g0:=hB2.frozen 0
 have g1:=hB2.frozen 1
 have g2:=hB2.frozen 2
 have hbB:Below w.heap.size w w2:=hb0.trans (hb2.mono hb0.size)
 have HL:=hid (wG _ _ _ _ _ (show aU (((w2.setCell ⟨w.heap.size,0,none⟩ (.int .i64 0)).setCell ⟨w.heap.size,1,none⟩ (.string ⟨#[]⟩)).setCell ⟨w.heap.size,2,none⟩ (.string ⟨#[]⟩)) w.heap.size 115 [.int .i64 0,.string ⟨#[]⟩,.string ⟨#[]⟩] from((hB2.set 0 _).set 1 _).set 2 _))
 have HB:=hid (((hbB.setCell (p:=⟨w.heap.size,0,none⟩) (Nat.le_refl _) (.int .i64 0)).setCell (p:=⟨w.heap.size,1,none⟩) (Nat.le_refl _) (.string ⟨#[]⟩)).setCell (p:=⟨w.heap.size,2,none⟩) (Nat.le_refl _) (.string ⟨#[]⟩))
 clear hB2
 go_wp2_with fail
 (try simp only[Exit.inBlock,Exit.then])
 refine⟨rfl,.tuple #[.agg #[.int .i64 0,.string ⟨#[]⟩,.string ⟨#[]⟩],.bool false],?_,rfl,HB.out⟩
 rw[results_cell_tmp rfl]
 have:=HL.out
 simp[asAddr,this]
theorem YM (w:World) (s b:Nat) (hs:w.cell? ⟨s,0,none⟩=some (.pointer (some ⟨b,0,none⟩))) (id:Int) (t:ByteArray) (Q:Int→World→Prop) (hg:Calls Tryz.prog 80 #[.pointer (some ⟨b,0,none⟩),.int .i64 id,.string t] w (fun e w'=>∃ z:Int,e=.returned (.int .i64 z)∧Q z w')) :
  Calls Tryz.prog 47 #[.pointer (some ⟨s,0,none⟩),.int .i64 id,.string t] w (fun e w'=>∃ z:Int,e=.returned (.int .i64 z)∧Q z w'):=by
 have HS:=hid hs
 have HG:=hid hg
 clear hs hg
 go_enter func47,ntmps47
 go_wp2_with fail
 refine(lI _ s b HS.out).mono ?_;rintro e w1 ⟨rfl,rfl⟩
 go_wp2_with fail
 refine HG.out.mono ?_;rintro e w2 ⟨z,rfl,hQ⟩
 have HQ:=hid hQ
 clear hQ
 go_wp2_with fail
 go_ret
 exact⟨z,rfl,HQ.out⟩
theorem Tv (w:World) (s b:Nat) (hs:w.cell? ⟨s,0,none⟩=some (.pointer (some ⟨b,0,none⟩))) (Q:World→Prop) (hg:Calls Tryz.prog 81 #[.pointer (some ⟨b,0,none⟩)] w (fun e w'=>e=.returned (.tuple #[])∧Q w')) :
  Calls Tryz.prog 48 #[.pointer (some ⟨s,0,none⟩)] w (fun e w'=>e=.returned (.tuple #[])∧Q w'):=by
 have HS:=hid hs
 have HG:=hid hg
 clear hs hg
 go_enter func48,ntmps48
 go_wp2_with fail
 refine(lI _ s b HS.out).mono ?_;rintro e w1 ⟨rfl,rfl⟩
 go_wp2_with fail
 refine HG.out.mono ?_;rintro e w2 ⟨rfl,hQ⟩
 have HQ:=hid hQ
 clear hQ
 go_wp2_with fail
 go_end0
 exact⟨rfl,HQ.out⟩
theorem GY.same (w:World) (g:jY):GY w g g:=⟨Or.inl rfl,Or.inl rfl,rfl,rfl,rfl,rfl⟩
theorem Qs {token:Nat} (h:token<18446744073709551616):yY (qc token)∧(iL (qc token)).length≤120:=by
 have h1:yY (qc token):=⟨by show (0:Nat)<256;omega,h,by show (0:Nat)<_;omega,by show (0:Nat)<_;omega,by show (0:Nat)<_;omega,by show (0:Nat)≤_;omega⟩
 refine⟨h1,?_⟩
 unfold iL
 have:=wu h1 4
 have h0:(qc token).data.toList.length=0:=by rw[ByteArray.toList_eq];rfl
 rw[List.length_append,h0];omega
theorem Qu:yY qW∧(iL qW).length≤120:=by
 have h1:yY qW:=⟨by decide,by decide,by decide,by decide,by decide,by decide⟩
 refine⟨h1,?_⟩
 unfold iL
 have:=wu h1 4
 have h0:qW.data.toList.length=0:=by rw[ByteArray.toList_eq];rfl
 rw[List.length_append,h0];omega
def mG (w:World) (lo:Nat) (W D R:Int) (g:jY) (A:jY→Prop) (w':World):Prop:=∃ g',Cl w' lo W D R g'∧aN (vG g) w w'∧GY w g g'∧A g'
theorem mG.still {w w':World} {lo:Nat} {W D R:Int} {g:jY} {A:jY→Prop} (h:Cl w lo W D R g) (hb:Below w.heap.size w w') (hA:A g):mG w lo W D R g A w':=⟨g,h.below hb,aN.of_below hb,GY.same w g,hA⟩
theorem y8 (g:jY):vG g g.b:=Or.inl (Or.inl (Or.inl (Or.inl (Or.inl rfl))))
theorem Qv (g:jY):vG g g.q:=Or.inl (Or.inl (Or.inl (Or.inl (Or.inr rfl))))
theorem Qw (g:jY):vG g g.m:=Or.inl (Or.inl (Or.inl (Or.inr rfl)))
theorem agm {w:World} {lo x:Nat} {W D R:Int} {g:jY} (h:Cl w lo W D R g) (hx:w.cell? ⟨x,0,none⟩=some (.pointer (some ⟨g.b,0,none⟩))) (conn:Int) :
  Calls Tryz.prog 26 #[.pointer (some ⟨x,0,none⟩),.int .i64 conn] w (fun e w'=>∃ z:Int,e=.returned (.int .i64 z)∧mG w lo W D R g (fun g'=>(g.had=true∧conn≤g.last∧z=10∧g'=g)∨(¬ (g.had=true∧conn≤g.last)∧z=0∧∃ q m L,g' = { g with last:=conn,had:=true,up:=true,L:=L,q:=q,m:=m })) w'):=by
 refine agk w x g.b hx conn _ ?_
 by_cases hc:g.had=true∧conn≤g.last
 ·have he:=h.e
  rw[hc.1] at he
  refine(ZQ w g.b _ _ _ _ g.last g.up _ g.L g.q g.m he conn hc.2).mono ?_
  rintro e w' ⟨rfl,rfl⟩
  exact⟨10,rfl,mG.still h (Below.refl _ _) (Or.inl ⟨hc.1,hc.2,rfl,rfl⟩)⟩
 ·refine(XZ w g.b _ _ _ _ g.last g.had g.up g.token g.silence g.asked g.an g.streams _ g.calls _ g.L g.q g.m h.e conn (by
   cases hh:g.had with
   | false=>exact Or.inl rfl
   | true=>exact Or.inr (by rw[hh] at hc;simp at hc;omega))).mono ?_
  rintro e w' ⟨rfl,q',m',h1,h2,h3,h4⟩
  exact⟨0,rfl,_,h.turn h4 (fun k hk=>Or.inl hk) h3 (Or.inr rfl) (fun e=>by cases e) (Or.inr h1) (Or.inr h2),h4.mono (fun k _ hk=>by rw[hk];exact y8 g),⟨Or.inr h1,Or.inr h2,rfl,rfl,rfl,rfl⟩,Or.inr ⟨hc,rfl,q',m',_,rfl⟩⟩
theorem aaU {w:World} {lo x:Nat} {W D R:Int} {g:jY} (h:Cl w lo W D R g) (hx:w.cell? ⟨x,0,none⟩=some (.pointer (some ⟨g.b,0,none⟩))) (conn:Int) :
  Calls Tryz.prog 28 #[.pointer (some ⟨x,0,none⟩),.int .i64 conn] w (fun e w'=>∃ z:Int,e=.returned (.int .i64 z)∧mG w lo W D R g (fun g'=>((g.up&&decide (conn=g.last))=false∧z=10∧g'=g)∨((g.up&&decide (conn=g.last))=true∧z=0∧∃ q m L,g' = { g with up:=false,L:=L,q:=q,m:=m })) w'):=by
 refine aaN w x g.b hx conn _ ?_
 cases hc:(g.up&&decide (conn=g.last)) with
 | false=>
  refine(PX w g.b _ _ _ _ _ g.last g.had g.up g.q g.m _ h.e.blk conn hc).mono ?_
  rintro e w' ⟨rfl,rfl⟩
  exact⟨10,rfl,mG.still h (Below.refl _ _) (Or.inl ⟨rfl,rfl,rfl⟩)⟩
 | true=>
  refine(JU w g.b _ _ _ _ _ g.last g.had g.up g.q g.m _ h.e.blk conn hc).mono ?_
  rintro e w' ⟨rfl,q',m',h1,h2,h3,h4,h5,h6⟩
  exact⟨0,rfl,_,h.turn h6 (fun k hk=>Or.inl hk) ⟨h3,h4,h5⟩ (Or.inl rfl) (fun _=>rfl) (Or.inr h1) (Or.inr h2),h6.mono (fun k _ hk=>by rw[hk];exact y8 g),⟨Or.inr h1,Or.inr h2,rfl,rfl,rfl,rfl⟩,Or.inr ⟨rfl,rfl,q',m',_,rfl⟩⟩
theorem aaV {w:World} {lo x:Nat} {W D R:Int} {g:jY} (h:Cl w lo W D R g) (hx:w.cell? ⟨x,0,none⟩=some (.pointer (some ⟨g.b,0,none⟩))) (hs:0≤g.silence∧g.silence≤1000000000000) :
  Calls Tryz.prog 13 #[.pointer (some ⟨x,0,none⟩)] w (fun e w'=>e=.returned (.tuple #[])∧mG w lo W D R g (fun g'=>∃ L,g' = { g with silence:=g.silence+1,L:=L }) w'):=by
 refine aaO w x g.b hx _ ?_
 have hl:=h.len
 refine(QX w g.b _ _ _ _ g.last g.had g.up g.token g.silence g.asked g.an g.streams _ g.calls _ g.L g.q g.m h.e (by omega) hs).mono ?_
 rintro e w' ⟨rfl,h1,h2⟩
 exact⟨rfl,_,h.turn h2 (fun k hk=>hk) h1 (GX h.l) (EC h.lu) (Or.inl rfl) (Or.inl rfl),h2.mono (fun k _ hk=>by
  rcases hk with rfl | rfl | rfl
  ·exact y8 g
  ·exact Qv g
  ·exact Qw g),⟨Or.inl rfl,Or.inl rfl,rfl,rfl,rfl,rfl⟩,_,rfl⟩
theorem Tz {w:World} {lo x:Nat} {W D R:Int} {g:jY} (h:Cl w lo W D R g) (hx:w.cell? ⟨x,0,none⟩=some (.pointer (some ⟨g.b,0,none⟩))) (conn:Int) (a:Option Addr) (c:Nat) (F:List UInt8) (hr:Rd w (.slice a F.length c) F) (hl:F.length≤2000000) (hcap:F.length≤c) (hn:iO bK F=none) :
  Calls Tryz.prog 31 #[.pointer (some ⟨x,0,none⟩),.int .i64 conn,.slice a F.length c] w (fun e w'=>∃ z:Int,e=.returned (.int .i64 z)∧z=(bif g.up&&decide (conn=g.last) then 0 else 10)∧Below w.heap.size w w'):=by
 refine Tn w x g.b hx conn a F.length c (fun z w'=>z=(bif g.up&&decide (conn=g.last) then 0 else 10)∧Below w.heap.size w w') ?_
 refine(JV w g.b _ _ _ _ g.last g.had g.up _ g.L g.q g.m h.e conn a c F hr hl hcap hn).mono ?_
 rintro e w' ⟨rfl,hb⟩
 exact⟨_,rfl,rfl,hb⟩
theorem adn {w:World} {lo x:Nat} {W D R:Int} {g:jY} (h:Cl w lo W D R g) (hx:w.cell? ⟨x,0,none⟩=some (.pointer (some ⟨g.b,0,none⟩))) :
  Calls Tryz.prog 38 #[.pointer (some ⟨x,0,none⟩)] w (fun e w'=>∃ (a:Option Addr) (n c:Nat),e=.returned (.slice a n c)∧(∃ vs,Ia w' w.heap.size (.slice a n c) vs (g.L.map (fun p=>aS bK (iL p))))∧mG w lo W D R g (fun g'=>g' = { g with L:=[] }) w'):=by
 refine adk w x g.b hx (fun v w'=>(∃ vs,Ia w' w.heap.size v vs (g.L.map (fun p=>aS bK (iL p))))∧mG w lo W D R g (fun g'=>g' = { g with L:=[] }) w') ?_
 refine(Qr w g.b _ _ _ _ _ g.last g.had g.up _ g.L g.q g.m h.e (fun p hp=>?_) (by have:=h.len;omega)).mono ?_
 ·rcases h.l with e | e
  ·rw[e] at hp;simp at hp
  ·rw[e] at hp;simp at hp;rw[hp];exact Qs h.tk
 ·rintro e w' ⟨v,vs,rfl,h1,h2,h3⟩
  obtain⟨a,c,rfl⟩:=ak h2.own
  exact⟨a,_,c,rfl,⟨vs,h2⟩,_,h.turn h3 (fun k hk=>Or.inr hk) h1 (Or.inl rfl) (fun _=>rfl) (Or.inl rfl) (Or.inl rfl),h3.mono (fun k _ hk=>by
   rcases hk with rfl | rfl
   ·exact Qv g
   ·exact Qw g),⟨Or.inl rfl,Or.inl rfl,rfl,rfl,rfl,rfl⟩,rfl⟩
theorem WM {w:World} {lo x:Nat} {W D R:Int} {g:jY} (h:Cl w lo W D R g) (hx:w.cell? ⟨x,0,none⟩=some (.pointer (some ⟨g.b,0,none⟩))) (hxl:x<w.heap.size) (num:Int) :
  Calls Tryz.prog 51 #[.pointer (some ⟨x,0,none⟩),.int .i64 num] w (fun e w'=>e=.returned (.tuple #[.agg #[.int .i64 0,.string ⟨#[]⟩,.string ⟨#[]⟩],.int .i64 (if 0≤num∧num<g.Bs.length then 0 else 15)])∧Below w.heap.size w w'):=by
 refine aaS w x g.b hx hxl num _ (fun w0 hb0=>?_)
 have h0:=h.below hb0
 by_cases hc:0≤num∧num<g.Bs.length
 ·rw[if_pos hc]
  obtain⟨k,rfl⟩:∃ k:Nat,num=k:=⟨num.toNat,by omega⟩
  exact UE w0 g.b _ _ _ _ g.last g.had g.up g.token g.silence g.asked g.an g.streams g.calls _ g.L g.q g.m lo g.Bs h0.e h0.s h0.nb k (by omega)
 ·rw[if_neg hc]
  exact X4 w0 g.b _ _ _ _ g.last g.had g.up g.token g.silence g.asked g.an g.streams g.calls _ g.L g.q g.m lo g.Bs h0.e h0.s h0.nb num hc
theorem MP {w:World} {lo x:Nat} {W D R:Int} {g:jY} (h:Cl w lo W D R g) (hx:w.cell? ⟨x,0,none⟩=some (.pointer (some ⟨g.b,0,none⟩))) (hxl:x<w.heap.size) (num:Int) :
  Calls Tryz.prog 53 #[.pointer (some ⟨x,0,none⟩),.int .i64 num] w (fun e w'=>e=.returned (.tuple #[.agg #[.int .i64 0,.string ⟨#[]⟩,.string ⟨#[]⟩],.int .i64 (if 0≤num∧num<g.Cs.length then 0 else 15)])∧Below w.heap.size w w'):=by
 refine WJ w x g.b hx hxl num _ (fun w0 hb0=>?_)
 have h0:=h.below hb0
 by_cases hc:0≤num∧num<g.Cs.length
 ·rw[if_pos hc]
  obtain⟨k,rfl⟩:∃ k:Nat,num=k:=⟨num.toNat,by omega⟩
  exact NM w0 g.b _ _ _ _ g.last g.had g.up g.token g.silence g.asked g.an g.streams _ g.calls g.L g.q g.m lo g.Cs h0.e h0.c h0.nc k (by omega)
 ·rw[if_neg hc]
  exact Q5 w0 g.b _ _ _ _ g.last g.had g.up g.token g.silence g.asked g.an g.streams _ g.calls g.L g.q g.m lo g.Cs h0.e h0.c h0.nc num hc
end Go.Proofs.YtgalebcpagmohaaGreatDoor
