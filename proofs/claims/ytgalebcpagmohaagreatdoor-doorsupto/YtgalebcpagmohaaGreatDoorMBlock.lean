/- The parser of package schemas: field. -/
import Derived.Test.YtgalebcpagmohaaGreatDoorMProgScan
import Derived.Test.YtgalebcpagmohaaGreatDoorMRead
import Derived.Deep.RegionLaw
import Derived.Deep.AppendLies
set_option maxHeartbeats 4000000
set_option maxRecDepth 100000
namespace Go.Proofs.YtgalebcpagmohaaGreatDoor
open Go.Proofs.Tryz
open Go.RowKit
theorem Wrote.wide {w w':World} {pb nb no n fo m:Nat} (h:Wrote w w' pb nb no n) (h1:fo≤no) (h2:no+n≤fo+m):Wrote w w' pb nb fo m :=
 ⟨h.os,h.tape,h.output,h.size,h.block,fun T p xs hp hs=>h.seg T p xs (by omega) hs,h.len⟩
theorem Wrote.trans {a b c:World} {pb nb no n:Nat} (h:Wrote a b pb nb no n) (k:Wrote b c pb nb no n):Wrote a c pb nb no n :=
 ⟨k.os.trans h.os,k.tape.trans h.tape,k.output.trans h.output,Nat.le_trans h.size k.size,fun i hi hp hn=>(k.block i (Nat.lt_of_lt_of_le hi h.size) hp hn).trans (h.block i hi hp hn),fun T p xs hp hs=>k.seg T p xs hp (h.seg T p xs hp hs),fun T cur hc=>by
  obtain⟨c',h1,h2⟩:=h.len T cur hc
  obtain⟨c'',h3,h4⟩:=k.len T c' h1
  exact⟨c'',h3,by omega⟩⟩
theorem Seg.join {w:World} {b:Nat} {T:TypeId} {o:Nat} {xs ys:List Value} (h:Seg w b T o xs) (k:Seg w b T (o+xs.length) ys):Seg w b T o (xs++ys):=by
 obtain⟨cur,hb,hs,ht⟩:=h
 obtain⟨cur',hb',hs',ht'⟩:=k
 rw[hb] at hb'
 simp only[Option.some.injEq,Obj.cells.injEq,and_true,and_self] at hb'
 subst hb'
 refine⟨cur,hb,by rw[List.length_append];omega,?_⟩
 rw[List.length_append,List.take_add,ht,List.drop_drop,ht']
def aJ (s:ByteArray) (t0:aF):Bool × aF :=
 if (t0.kind==3)=true then
  if bC (aj s t0)=true then
   if dI (dH (dX (aj s (aj s t0))) s (aj s (aj s t0)))=true then(true,aj s (dH (dX (aj s (aj s t0))) s (aj s (aj s t0))))
   else(false,dH (dX (aj s (aj s t0))) s (aj s (aj s t0)))
  else(false,aj s t0)
 else(false,t0)
structure bD where
 number:Int
 numberAt:Nat
 name:ByteArray
 nameAt:Nat
 shape:Nat
 base:ByteArray
 bV:Nat
def fJ (f:bD):List Value:=[.int .i64 f.number,.int .i64 f.numberAt,.string f.name,.int .i64 f.nameAt,.int .i64 f.shape,.string f.base,.int .i64 f.bV]
def fU (s:ByteArray) (t0:aF) (n:Int):bD :=
 ⟨n,t0.at_,(aj s t0).text,(aj s t0).at_,lQ (aj s (aj s t0)),(dH (dX (aj s (aj s t0))) s (aj s (aj s t0))).text,(dH (dX (aj s (aj s t0))) s (aj s (aj s t0))).at_⟩
theorem Rx (w:World) (pb:Nat) (s:ByteArray) (t:aF) (fb:Nat) (T:TypeId) (d0 d1 d2 d3 d4 d5 d6:Value) (h:Ps w pb s t) (hn:Seg w fb T 0 [d0,d1,d2,d3,d4,d5,d6]) (hne:fb≠pb) (h1:fb ≠ 0) (h2:fb ≠ 1) :
  Calls Tryz.prog 188 #[.pointer (some ⟨pb,0,none⟩),.pointer (some ⟨fb,0,none⟩)] w fun e w'=>e=.returned (.bool (aJ s t).1)∧Ps w' pb s (aJ s t).2∧Wrote w w' pb fb 0 7∧((aJ s t).1=true→∃ n:Int,(jv t.text.toList=true→n=jQ t.text.toList)∧Seg w' fb T 0 (fJ (fU s t n))):=by
 have a0:=hn.part 0 2 [d0,d1] rfl rfl (by omega)
 have a1:=hn.part 2 2 [d2,d3] rfl rfl (by omega)
 have a2:=hn.part 4 1 [d4] rfl rfl (by omega)
 have a3:=hn.part 5 2 [d5,d6] rfl rfl (by omega)
 simp only[Nat.zero_add] at a0 a1 a2 a3
 generalize hF:aJ s t=F
 have HF:=hid hF
 have H:=hid h
 have A0:=hid a0
 have A1:=hid a1
 have A2:=hid a2
 have A3:=hid a3
 clear h hn hF a0 a1 a2 a3
 go_enter func188,ntmps188
 go_wp2_with fail
 refine(NZ _ pb s t fb 0 T d0 d1 H.out A0.out hne h1 h2).mono ?_;rintro e w1 ⟨n,rfl,hnum,hp1,hs1,hw1⟩
 have Cb:=hid hnum
 have W1:=hid (hw1.wide (fo:=0) (m:=7) (by omega) (by omega))
 have B1:=hid (hw1.seg _ _ _ (Or.inr (by simp)) A1.out)
 have B2:=hid (hw1.seg _ _ _ (Or.inr (by simp)) A2.out)
 have B3:=hid (hw1.seg _ _ _ (Or.inr (by simp)) A3.out)
 have S1:=hid hs1
 have P1:=hid hp1
 clear hnum hw1 hs1 hp1 A0 A1 A2 A3
 cases hk:(t.kind==3)
 case' false=>
  have HX:=hid (show F=(false,t) by rw[← HF.out];simp[aJ,hk])
  rw[hk] at P1
  go_wp2_with fail
  go_ret
  exact⟨by rw[HX.out];rfl,by rw[HX.out];exact P1.out,W1.out,fun hh=>by rw[HX.out] at hh;cases hh⟩
 case' true=>
  rw[hk] at P1
  go_wp2_with fail
  refine(name_any _ pb s (aj s t) fb 2 T d2 d3 P1.out B1.out hne h1 h2).mono ?_;rintro e w2 ⟨rfl,hp2,hs2,hw2⟩
  have W2:=hid (W1.out.trans (hw2.wide (fo:=0) (m:=7) (by omega) (by omega)))
  have C0:=hid (hw2.seg _ _ _ (Or.inl (by simp)) S1.out)
  have C2:=hid (hw2.seg _ _ _ (Or.inr (by simp)) B2.out)
  have C3:=hid (hw2.seg _ _ _ (Or.inr (by simp)) B3.out)
  have S2:=hid hs2
  have P2:=hid hp2
  clear hp2 hs2 hw2 B1 B2 B3 S1 P1 W1
  cases hno:bC (aj s t)
  case' false=>
   have HX:=hid (show F=(false,aj s t) by rw[← HF.out];simp[aJ,hk,hno])
   rw[hno] at P2
   go_wp2_with fail
   go_ret
   exact⟨by rw[HX.out];rfl,by rw[HX.out];exact P2.out,W2.out,fun hh=>by rw[HX.out] at hh;cases hh⟩
  case' true=>
   rw[hno] at P2
   go_wp2_with fail
   refine(Ru _ pb s (aj s (aj s t)) fb 4 T d4 P2.out C2.out hne h1 h2).mono ?_;rintro e w3 ⟨rfl,hp3,hs3,hw3⟩
   have W3:=hid (W2.out.trans (hw3.wide (fo:=0) (m:=7) (by omega) (by omega)))
   have D0:=hid (hw3.seg _ _ _ (Or.inl (by simp)) C0.out)
   have D1:=hid (hw3.seg _ _ _ (Or.inl (by simp[aA])) S2.out)
   have D3:=hid (hw3.seg _ _ _ (Or.inr (by simp)) C3.out)
   have S3:=hid hs3
   have P3:=hid hp3
   clear hp3 hs3 hw3 C0 C2 C3 S2 P2 W2
   go_wp2_with fail
   refine(yC _ pb s (dH (dX (aj s (aj s t))) s (aj s (aj s t))) fb 5 T d5 d6 P3.out D3.out hne h1 h2).mono ?_;rintro e w4 ⟨rfl,wK,hs4,hw4⟩
   have W4:=hid (W3.out.trans (hw4.wide (fo:=0) (m:=7) (by omega) (by omega)))
   have E0:=hid (hw4.seg _ _ _ (Or.inl (by simp)) D0.out)
   have E1:=hid (hw4.seg _ _ _ (Or.inl (by simp[aA])) D1.out)
   have E2:=hid (hw4.seg _ _ _ (Or.inl (by simp)) S3.out)
   have P4:=hid wK
   have S4:=hid hs4
   clear wK hs4 hw4 D0 D1 D3 S3 P3 W3
   cases vS:dI (dH (dX (aj s (aj s t))) s (aj s (aj s t)))
   case' false=>
    have HX:=hid (show F=(false,dH (dX (aj s (aj s t))) s (aj s (aj s t))) by rw[← HF.out];simp[aJ,hk,hno,vS])
    rw[vS] at P4
    go_wp2_with fail
    go_ret
    exact⟨by rw[HX.out];rfl,by rw[HX.out];exact P4.out,W4.out,fun hh=>by rw[HX.out] at hh;cases hh⟩
   case' true=>
    have HX:=hid (show F=(true,aj s (dH (dX (aj s (aj s t))) s (aj s (aj s t)))) by rw[← HF.out];simp[aJ,hk,hno,vS])
    rw[vS] at P4
    go_wp2_with fail
    go_ret
    exact⟨by rw[HX.out];rfl,by rw[HX.out];exact P4.out,W4.out,fun _=>⟨n,Cb.out,((E0.out.join E1.out).join E2.out).join S4.out⟩⟩
def Tk (s:ByteArray) (t:aF):Prop:=∃ i,i≤s.size∧t=gI s i
theorem X9 (s:ByteArray) (i:Nat):i≤pz s i:=by
 unfold pz
 have:∀ f i,i≤fF s f i:=by
  intro f
  induction f with
  | zero=>intro i;exact Nat.le_refl _
  | succ f ih=>
   intro i;unfold fF;split
   ·exact Nat.le_trans (Nat.le_succ i) (ih (i+1))
   ·exact Nat.le_refl _
 exact this _ _
theorem Tk.fit {s:ByteArray} {t:aF} (h:Tk s t):t.at_+t.text.size≤s.size:=by
 obtain⟨i,hi,rfl⟩:=h
 exact C9 s _ (yA s i hi)
theorem Tk.next {s:ByteArray} {t:aF} (h:Tk s t):Tk s (aj s t):=⟨_,h.fit,rfl⟩
theorem Tk.after {s:ByteArray} {t:aF} (h:Tk s t) (b:Bool):Tk s (dH b s t):=by
 cases b
 ·exact h
 ·exact h.next
theorem Ry (s:ByteArray) (k:Nat):(gQ s k).at_=k:=by
 unfold gQ;split
 ·rfl
 ·split<;>rfl
theorem iP (s:ByteArray) (t:aF):t.at_+t.text.size≤(aj s t).at_:=by
 unfold aj gI;rw[Ry];exact X9 s _
theorem after_at (s:ByteArray) (t:aF) (b:Bool):t.at_≤(dH b s t).at_:=by
 cases b
 ·exact Nat.le_refl _
 ·have:=iP s t;show t.at_≤(aj s t).at_;omega
theorem Ak (c:Int):lC c=4∨lC c=5∨lC c=1:=by
 unfold lC;split
 ·simp
 ·split<;>simp
theorem Tk.num {s:ByteArray} {t:aF} (h:Tk s t) (hk:t.kind=3):jv t.text.toList=true:=by
 obtain⟨i,hi,rfl⟩:=h
 unfold gI gQ at *
 split at hk
 ·simp at hk
 ·split at hk
  ·rename_i h1 h2
   rcases Ak (B s (pz s i)) with h | h | h<;>(simp only at hk;omega)
  ·rename_i h1 h2
   rw[if_neg h1,if_neg h2]
   simp only[runK] at hk ⊢
   split at hk
   ·omega
   ·split at hk
    ·assumption
    ·omega
theorem Tk.pos {s:ByteArray} {t:aF} (h:Tk s t) (hk:t.kind≠0):1≤t.text.size:=by
 obtain⟨i,hi,rfl⟩:=h
 have hb:=yA s i hi
 unfold gI gQ at *
 split at hk
 ·simp at hk
 ·rename_i h1
  rw[if_neg h1]
  split
  ·simp[ByteArray.size_extract];omega
  ·rename_i h2
   have h3:=kN s s.size (pz s i)
   have h4:=rO s s.size (pz s i) hb
   simp[ByteArray.size_extract];omega
theorem rV {s:ByteArray} {t:aF} (h:Tk s t):Tk s (aJ s t).2:=by
 unfold aJ
 split
 ·split
  ·split
   ·exact((h.next.next).after _).next
   ·exact(h.next.next).after _
  ·exact h.next
 ·exact h
theorem Gf {s:ByteArray} {t:aF} (h:Tk s t) (hf:(aJ s t).1=true):t.at_<(aJ s t).2.at_∧t.kind=3:=by
 unfold aJ at *
 split at hf
 ·rename_i hk
  have hk3:t.kind=3:=eq_of_beq hk
  have hp:=h.pos (by omega)
  split at hf
  ·split at hf
   ·rename_i h1 h2
    rw[if_pos hk,if_pos h1,if_pos h2]
    refine⟨?_,hk3⟩
    have a1:=iP s t
    have a2:=iP s (aj s t)
    have a3:=after_at s (aj s (aj s t)) (dX (aj s (aj s t)))
    have a4:=iP s (dH (dX (aj s (aj s t))) s (aj s (aj s t)))
    simp only
    omega
   ·simp at hf
  ·simp at hf
 ·simp at hf
def dO (s:ByteArray):Nat→aF→List bD→Bool × aF × List bD
 | 0,t,L=>(false,t,L)
 | f+1,t,L=>
  if (aJ s t).1=true then
   if ((aJ s t).2.kind==5)=true then(true,aj s (aJ s t).2,L++[fU s t (jQ t.text.toList)])
   else dO s f (aJ s t).2 (L++[fU s t (jQ t.text.toList)])
  else(false,(aJ s t).2,L)
def jf (s:ByteArray) (t:aF):Bool × aF × List bD:=if (t.kind==4)=true then dO s (s.size+1) (aj s t) [] else(false,t,[])
theorem Tryz.infoPField:(Tryz.prog.info? 278).map (fun i=>(i.zero,i.size,i.bytes))=some (some (.agg #[.int .i64 0,.int .i64 0,.string ⟨#[]⟩,.int .i64 0,.int .i64 0,.string ⟨#[]⟩,.int .i64 0]),7,72):=by kernel_rfl
theorem Ps.Iu {w w':World} {pb B:Nat} {s:ByteArray} {t:aF} (h:Ps w pb s t) (hb:Below B w w') (h0:pb<B) (h1:0 < B) (h2:1 < B):Ps w' pb s t:=by
 obtain⟨te,pe,e1⟩:=h.vars.sx
 obtain⟨tf,pf,e2⟩:=h.vars.rg
 exact⟨h.seg.same (hb.block pb h0),⟨⟨te,pe,by rw[hb.cell h1];exact e1⟩,⟨tf,pf,by rw[hb.cell h2];exact e2⟩,Nat.lt_of_lt_of_le h.vars.X7 hb.size,Nat.lt_of_lt_of_le h.vars.X8 hb.size⟩,h.ne1,h.ne2,h.fit,h.sz⟩
theorem Wrote.vT {w w' w'':World} {pb nb no n:Nat} (h:Wrote w w' pb nb no n) (hb:Below w.heap.size w' w'') (hl:nb<w.heap.size):Wrote w w'' pb nb no n :=
 ⟨hb.os.trans h.os,hb.tape.trans h.tape,hb.output.trans h.output,Nat.le_trans h.size hb.size,fun k hk hp hn=>(hb.block k hk).trans (h.block k hk hp hn),fun T p xs hp hs=>(h.seg T p xs hp hs).same (hb.block nb hl),fun T cur hc=>by
  obtain⟨c',h1,h2⟩:=h.len T cur hc
  exact⟨c',by rw[hb.block nb hl];exact h1,h2⟩⟩
theorem Wrote.box {w w' w'':World} {pb nb no n fb fo m:Nat} (h:Wrote w w' pb nb no n) (k:Wrote w' w'' pb fb fo m) (hf:w.heap.size≤fb) (hl:nb<w.heap.size) (hne:nb≠pb):Wrote w w'' pb nb no n :=
 have hsame:w''.heap[nb]? = w'.heap[nb]?:=k.block nb (Nat.lt_of_lt_of_le hl h.size) hne (by omega)
 ⟨k.os.trans h.os,k.tape.trans h.tape,k.output.trans h.output,Nat.le_trans h.size k.size,fun i hi hp hn=>(k.block i (Nat.lt_of_lt_of_le hi h.size) hp (by omega)).trans (h.block i hi hp hn),fun T p xs hp hs=>(h.seg T p xs hp hs).same hsame,fun T cur hc=>by
  obtain⟨c',h1,h2⟩:=h.len T cur hc
  exact⟨c',by rw[hsame];exact h1,h2⟩⟩
theorem Oa (w:World) (pb:Nat) (s:ByteArray) (t:aF) (ib io:Nat) (T:TypeId) (h:Ps w pb s t) (ht:Tk s t) (hl:Seg w ib T io [.slice none 0 0]) (hne:ib≠pb) (h1:ib ≠ 0) (h2:ib ≠ 1) :
  Calls Tryz.prog 187 #[.pointer (some ⟨pb,0,none⟩),.pointer (some ⟨ib,io,none⟩),.func (Fn.func 188) #[.pointer (some ⟨pb,0,none⟩)] #[]] w fun e w'=>∃ v,e=.returned (.bool (jf s t).1)∧Ps w' pb s (jf s t).2.1∧Seg w' ib T io [v]∧w'.ownsRow w.heap.size 278 7 v (jf s t).2.2.length ((jf s t).2.2.flatMap fJ)∧((jf s t).2.2=[]→v=.slice none 0 0)∧Wrote w w' pb ib io 1:=by
 obtain⟨iF,hiF,hF0,hF1,hF2⟩:=info_parts Tryz.infoPField
 have hpl:=h.seg.lt
 have hil:=hl.lt
 have hv1:=h.vars.X7
 have hv2:=h.vars.X8
 have hsz:=h.sz
 generalize hR:jf s t=R
 have HR:=hid hR
 have H:=hid h
 have HT:=hid ht
 have HL:=hid hl
 clear h ht hl hR
 go_enter func187,ntmps187
 go_wp2_with fail
 refine(mX _ pb s t 4 H.out).mono ?_;rintro e w1 ⟨rfl,hp1,hb1⟩
 cases hk:(t.kind==4)
 case' false=>
  have HX:=hid (show R=(false,t,[]) by rw[← HR.out];simp[jf,hk])
  rw[hk] at hp1
  go_wp2_with fail
  go_ret
  exact⟨.slice none 0 0,by rw[HX.out];rfl,by rw[HX.out];exact hp1,HL.out.same (hb1.block ib hil hne),by rw[HX.out];exact World.ownsRow_nil _ _ _ _,fun _=>rfl,Wrote.rQ hb1 hil hne⟩
 case' true=>
  have HX:=hid (show dO s (s.size+1) (aj s t) []=R by rw[← HR.out];simp[jf,hk])
  rw[hk] at hp1
  have qo:=hid hp1
  have HW1:=hid (Wrote.rQ (no:=io) (n:=1) hb1 hil hne)
  have HL1:=hid (HL.out.same (hb1.block ib hil hne))
  clear hp1 hb1
  go_wp2_with fail
  go_loopg [7] (s.size+1) (fun gk one wr=>∃ t1 L v,s.size<t1.at_+gk∧L.length≤t1.at_∧Hid (dO s gk t1 L=R)∧Hid (Ps wr pb s t1)∧Hid (Tk s t1)∧Hid (Seg wr ib T io [v])∧Hid (wr.ownsRow w.heap.size 278 7 v L.length (L.flatMap fJ))∧Hid (L=[]→v=.slice none 0 0)∧Hid (Wrote w wr pb ib io 1))
  case atStart=>exact⟨aj s t,[],.slice none 0 0,by omega,by simp,HX,qo,hid HT.out.next,HL1,hid (World.ownsRow_nil _ _ _ _),hid (fun _=>rfl),HW1⟩
  case round=>
   obtain⟨t1,L,v,hgk,hLl,Ob,HP,Iw,HLC,HOW,HNL,Z4⟩:=hrel
   obtain⟨va,vc,hvv⟩:∃ a c,v=.slice a L.length c:=ak HOW.out
   subst hvv
   have hfit:=Iw.out.fit
   obtain⟨gk',rfl⟩:∃ gk',gk=gk'+1:=⟨gk-1,by omega⟩
   have hws:=Z4.out.size
   go_wp2_with fail
   have hbox:Seg (wr.alloc (.cells #[.int .i64 0,.int .i64 0,.string ⟨#[]⟩,.int .i64 0,.int .i64 0,.string ⟨#[]⟩,.int .i64 0] 278)) wr.heap.size 278 0 [.int .i64 0,.int .i64 0,.string ⟨#[]⟩,.int .i64 0,.int .i64 0,.string ⟨#[]⟩,.int .i64 0]:=⟨_,heap_alloc_new wr _,by simp,by simp⟩
   have hb0:Below wr.heap.size wr (wr.alloc (.cells #[.int .i64 0,.int .i64 0,.string ⟨#[]⟩,.int .i64 0,.int .i64 0,.string ⟨#[]⟩,.int .i64 0] 278)):=(Below.refl _ _).alloc (Nat.le_refl _) _
   refine(Rx _ pb s t1 wr.heap.size 278 _ _ _ _ _ _ _ (HP.out.below hb0) hbox (by omega) (by omega) (by omega)).mono ?_;rintro e w2 ⟨rfl,hp2,hw2,hfd⟩
   have hfl:wr.heap.size<w2.heap.size:=Nat.lt_of_lt_of_le (by simp) hw2.size
   have UO:w2.heap[ib]? = wr.heap[ib]?:=(hw2.block ib (by simp;omega) hne (by omega)).trans (hb0.block ib (by omega))
   have UQ:=HLC.out.same UO
   have UR:=au (w':=w2) HOW.out (fun g hg=>by
    have hlt:=HOW.out.lt g hg
    exact(hw2.block g (by simp;omega) (by omega) (by omega)).trans (hb0.block g hlt.2))
   have hwr2:Wrote w w2 pb ib io 1:=(Z4.out.vT (hb0.mono hws) hil).box hw2 hws hil hne
   have HP2:=hid hp2
   have Oc:=hid UQ
   have Oe:=hid UR
   have UU:=hid hwr2
   have Nj:=hid hfd
   clear hp2 hw2 hfd UO UQ UR hwr2 hbox hb0 HP HLC HOW Z4
   cases hf:(aJ s t1).1
   case' false=>
    have HY:=hid (show R=(false,(aJ s t1).2,L) by rw[← Ob.out];simp[dO,hf])
    go_wp2_with fail
    go_ret
    exact⟨_,by rw[HY.out];rfl,by rw[HY.out];exact HP2.out,Oc.out,by rw[HY.out];exact Oe.out,by rw[HY.out];exact HNL.out,UU.out⟩
   case' true=>
    obtain⟨n,hn,hseg⟩:=Nj.out hf
    have hat:=Gf Iw.out hf
    rw[hn (Iw.out.num hat.2)] at hseg
    have e0:=hseg.cell (j:=0) (v:=.int .i64 (fU s t1 (jQ t1.text.toList)).number) rfl
    have e1:=hseg.cell (j:=1) (v:=.int .i64 (fU s t1 (jQ t1.text.toList)).numberAt) rfl
    have e2:=hseg.cell (j:=2) (v:=.string (fU s t1 (jQ t1.text.toList)).name) rfl
    have e3:=hseg.cell (j:=3) (v:=.int .i64 (fU s t1 (jQ t1.text.toList)).nameAt) rfl
    have e4:=hseg.cell (j:=4) (v:=.int .i64 (fU s t1 (jQ t1.text.toList)).shape) rfl
    have e5:=hseg.cell (j:=5) (v:=.string (fU s t1 (jQ t1.text.toList)).base) rfl
    have e6:=hseg.cell (j:=6) (v:=.int .i64 (fU s t1 (jQ t1.text.toList)).bV) rfl
    have c0:=Oc.out.cell (j:=0) (v:=.slice va L.length vc) rfl
    simp only[Nat.zero_add,Nat.add_zero] at e0 e1 e2 e3 e4 e5 e6 c0
    have c0a:=lN c0 (show ib<w2.heap.size by omega)
    have HAT:=hid hat
    have HFV:=hid (show dO s (gk'+1) t1 L=R from Ob.out)
    generalize hfv:fU s t1 (jQ t1.text.toList)=fv at *
    have HFW:=hid hfv
    clear hn hseg hfv Ob Nj
    go_wp2_with fail
    go_region_law (refine step_append_lies _ rfl (.tmp 17) (.tmp 19) 132 rfl w.heap.size 278 iF _ 7 72 underlying132 hiF hF0 hF1 hF2 rfl (by decide) _ _ _ (by simp[Act.eval]) (Oe.out.alloc _) ⟨w2.heap.size,0,none⟩ 1 1 (fJ fv) (by simp[Act.eval]) rfl (pV w2 #[.int .i64 fv.number,.int .i64 fv.numberAt,.string fv.name,.int .i64 fv.nameAt,.int .i64 fv.shape,.string fv.base,.int .i64 fv.bV] _) (by simp[fJ,Value.oneCell']) (by omega) (by unfold maxLen;omega) (by omega) (by simp;omega) _ rfl ?_;intro g cp w3 hown' hgrow hgat aeQ;have hb3:Below w.heap.size w2 w3:=((Below.refl w.heap.size w2).alloc (by omega) _).drew.grown hgrow (by show w.heap.size≤(w2.alloc _).heap.size;simp;omega) (fun k hk=>(Oe.out.lt k hk).1);have Iy:=Oc.out.same (hb3.block ib hil);have c03:=Iy.cell (j:=0) (v:=.slice va L.length vc) rfl;have cf3:∀ j,w3.frozen? ⟨ib,j,none⟩=false:=fun j=>Iy.frozen j;simp only[Nat.add_zero] at c03;have Z5:=hid Iy;have HB3:=hid hb3;have NT:=hid hown';clear Iy hb3 hown' hgrow hgat)
    all_goals
     go_wp2_with fail
     have wK:=(HP2.out.Iu HB3.out hpl hv1 hv2).store hne h1 h2 io (.slice (some ⟨g,0,none⟩) (L.length+1) cp)
     have EU:=ownsRow_setCell_below (a:=⟨ib,io,none⟩) NT.out hil (.slice (some ⟨g,0,none⟩) (L.length+1) cp)
     have hs4:=Z5.out.set 0 (.slice (some ⟨g,0,none⟩) (L.length+1) cp)
     have hw4:=(UU.out.vT HB3.out hil).setCell 0 (by omega) (.slice (some ⟨g,0,none⟩) (L.length+1) cp)
     simp only[Nat.add_zero] at hs4 hw4
     have aeR:=hw4.size
     refine(mX _ pb s (aJ s t1).2 5 wK).mono ?_;rintro e w5 ⟨rfl,wL,hb5⟩
     have wZ:=hid wL
     have BK:=hid (hs4.same (hb5.block ib (by omega) hne))
     have HW5:=hid (hw4.but hb5 hil hne)
     have UW:=hid (show w5.ownsRow w.heap.size 278 7 (.slice (some ⟨g,0,none⟩) (L.length+1) cp) (L++[fv]).length ((L++[fv]).flatMap fJ) by
      have:=au (w':=w5) EU (fun gg hgg=>hb5.block gg (EU.lt gg hgg).2 (by have:=(EU.lt gg hgg).1;omega))
      simpa using this)
     clear wK EU hs4 hw4 wL hb5 e0 e1 e2 e3 e4 e5 e6 c0 c0a c03 cf3
     cases hk5:((aJ s t1).2.kind==5)
     case' true=>
      have HZ:=hid (show R=(true,aj s (aJ s t1).2,L++[fv]) by rw[← HFV.out];simp only[dO,hf,hk5,if_true,HFW.out])
      rw[hk5] at wZ
      go_wp2_with fail
      go_ret
      exact⟨_,by rw[HZ.out];rfl,by rw[HZ.out];exact wZ.out,BK.out,by rw[HZ.out];exact UW.out,fun hh=>(by rw[HZ.out] at hh;simp at hh),HW5.out⟩
     case' false=>
      have HZ:=hid (show dO s gk' (aJ s t1).2 (L++[fv])=R by rw[← HFV.out];simp only[dO,hf,hk5,if_true,HFW.out];rw[if_neg (by decide)])
      rw[hk5] at wZ
      have UY:=HAT.out.1
      have HT2:=hid (rV Iw.out)
      go_wp2_with fail
      go_roundg gk'
      case rel=>exact⟨(aJ s t1).2,L++[fv],_,by omega,by simp;omega,HZ,wZ,HT2,BK,UW,hid (fun hh=>by simp at hh),HW5⟩
      case measure=>omega
theorem Tryz.infoPName:(Tryz.prog.info? 131).map (fun i=>(i.zero,i.size,i.bytes))=some (some (.agg #[.string ⟨#[]⟩,.int .i64 0]),2,24):=by kernel_rfl
def namesT (s:ByteArray):Nat→aF→List aF→Bool × aF × List aF
 | 0,t,L=>(false,t,L)
 | f+1,t,L=>
  if bC t=true then
   if ((aj s t).kind==5)=true then(true,aj s (aj s t),L++[t])
   else namesT s f (aj s t) (L++[t])
  else(false,t,L)
def jg (s:ByteArray) (t:aF):Bool × aF × List aF:=if (t.kind==4)=true then namesT s (s.size+1) (aj s t) [] else(false,t,[])
theorem Og (w:World) (pb:Nat) (s:ByteArray) (t:aF) (ib io:Nat) (T:TypeId) (h:Ps w pb s t) (ht:Tk s t) (hl:Seg w ib T io [.slice none 0 0]) (hne:ib≠pb) (h1:ib ≠ 0) (h2:ib ≠ 1) :
  Calls Tryz.prog 189 #[.pointer (some ⟨pb,0,none⟩),.pointer (some ⟨ib,io,none⟩),.func (Fn.func 186) #[.pointer (some ⟨pb,0,none⟩)] #[]] w fun e w'=>∃ v,e=.returned (.bool (jg s t).1)∧Ps w' pb s (jg s t).2.1∧Seg w' ib T io [v]∧w'.ownsRow w.heap.size 131 2 v (jg s t).2.2.length ((jg s t).2.2.flatMap aA)∧((jg s t).2.2=[]→v=.slice none 0 0)∧Wrote w w' pb ib io 1:=by
 obtain⟨iF,hiF,hF0,hF1,hF2⟩:=info_parts Tryz.infoPName
 have hpl:=h.seg.lt
 have hil:=hl.lt
 have hv1:=h.vars.X7
 have hv2:=h.vars.X8
 have hsz:=h.sz
 generalize hR:jg s t=R
 have HR:=hid hR
 have H:=hid h
 have HT:=hid ht
 have HL:=hid hl
 clear h ht hl hR
 go_enter func189,ntmps189
 go_wp2_with fail
 refine(mX _ pb s t 4 H.out).mono ?_;rintro e w1 ⟨rfl,hp1,hb1⟩
 cases hk:(t.kind==4)
 case' false=>
  have HX:=hid (show R=(false,t,[]) by rw[← HR.out];simp[jg,hk])
  rw[hk] at hp1
  go_wp2_with fail
  go_ret
  exact⟨.slice none 0 0,by rw[HX.out];rfl,by rw[HX.out];exact hp1,HL.out.same (hb1.block ib hil hne),by rw[HX.out];exact World.ownsRow_nil _ _ _ _,fun _=>rfl,Wrote.rQ hb1 hil hne⟩
 case' true=>
  have HX:=hid (show namesT s (s.size+1) (aj s t) []=R by rw[← HR.out];simp[jg,hk])
  rw[hk] at hp1
  have qo:=hid hp1
  have HW1:=hid (Wrote.rQ (no:=io) (n:=1) hb1 hil hne)
  have HL1:=hid (HL.out.same (hb1.block ib hil hne))
  clear hp1 hb1
  go_wp2_with fail
  go_loopg [7] (s.size+1) (fun gk one wr=>∃ t1 L v,s.size<t1.at_+gk∧L.length≤t1.at_∧Hid (namesT s gk t1 L=R)∧Hid (Ps wr pb s t1)∧Hid (Tk s t1)∧Hid (Seg wr ib T io [v])∧Hid (wr.ownsRow w.heap.size 131 2 v L.length (L.flatMap aA))∧Hid (L=[]→v=.slice none 0 0)∧Hid (Wrote w wr pb ib io 1))
  case atStart=>exact⟨aj s t,[],.slice none 0 0,by omega,by simp,HX,qo,hid HT.out.next,HL1,hid (World.ownsRow_nil _ _ _ _),hid (fun _=>rfl),HW1⟩
  case round=>
   obtain⟨t1,L,v,hgk,hLl,Ob,HP,Iw,HLC,HOW,HNL,Z4⟩:=hrel
   obtain⟨va,vc,hvv⟩:∃ a c,v=.slice a L.length c:=ak HOW.out
   subst hvv
   have hfit:=Iw.out.fit
   obtain⟨gk',rfl⟩:∃ gk',gk=gk'+1:=⟨gk-1,by omega⟩
   have hws:=Z4.out.size
   go_wp2_with fail
   have hbox:Seg (wr.alloc (.cells #[.string ⟨#[]⟩,.int .i64 0] 131)) wr.heap.size 131 0 [.string ⟨#[]⟩,.int .i64 0]:=⟨_,heap_alloc_new wr _,by simp,by simp⟩
   have hb0:Below wr.heap.size wr (wr.alloc (.cells #[.string ⟨#[]⟩,.int .i64 0] 131)):=(Below.refl _ _).alloc (Nat.le_refl _) _
   refine(name_any _ pb s t1 wr.heap.size 0 131 _ _ (HP.out.below hb0) hbox (by omega) (by omega) (by omega)).mono ?_;rintro e w2 ⟨rfl,hp2,hfd,hw2⟩
   have hfl:wr.heap.size<w2.heap.size:=Nat.lt_of_lt_of_le (by simp) hw2.size
   have UO:w2.heap[ib]? = wr.heap[ib]?:=(hw2.block ib (by simp;omega) hne (by omega)).trans (hb0.block ib (by omega))
   have UQ:=HLC.out.same UO
   have UR:=au (w':=w2) HOW.out (fun g hg=>by
    have hlt:=HOW.out.lt g hg
    exact(hw2.block g (by simp;omega) (by omega) (by omega)).trans (hb0.block g hlt.2))
   have hwr2:Wrote w w2 pb ib io 1:=(Z4.out.vT (hb0.mono hws) hil).box hw2 hws hil hne
   have HP2:=hid hp2
   have Oc:=hid UQ
   have Oe:=hid UR
   have UU:=hid hwr2
   have Nj:=hid hfd
   clear hp2 hw2 hfd UO UQ UR hwr2 hbox hb0 HP HLC HOW Z4
   cases hf:bC t1
   case' false=>
    have HY:=hid (show R=(false,t1,L) by rw[← Ob.out];simp[namesT,hf])
    go_wp2_with fail
    go_ret
    exact⟨_,by rw[HY.out];rfl,by rw[HY.out];rw[hf] at HP2;exact HP2.out,Oc.out,by rw[HY.out];exact Oe.out,by rw[HY.out];exact HNL.out,UU.out⟩
   case' true=>
    have hat:t1.kind=2:=by simp only[bC,Bool.and_eq_true] at hf;exact eq_of_beq hf.2
    have e0:=Nj.out.cell (j:=0) (v:=.string t1.text) rfl
    have e1:=Nj.out.cell (j:=1) (v:=.int .i64 t1.at_) rfl
    rw[hf] at HP2
    have c0:=Oc.out.cell (j:=0) (v:=.slice va L.length vc) rfl
    simp only[Nat.zero_add,Nat.add_zero] at e0 e1 c0
    have c0a:=lN c0 (show ib<w2.heap.size by omega)
    have HAT:=hid hat
    have HFV:=hid (show namesT s (gk'+1) t1 L=R from Ob.out)
    clear Ob Nj
    go_wp2_with fail
    go_region_law (refine step_append_lies _ rfl (.tmp 17) (.tmp 19) 133 rfl w.heap.size 131 iF _ 2 24 underlying133 hiF hF0 hF1 hF2 rfl (by decide) _ _ _ (by simp[Act.eval]) (Oe.out.alloc _) ⟨w2.heap.size,0,none⟩ 1 1 (aA t1) (by simp[Act.eval]) rfl (pV w2 #[.string t1.text,.int .i64 t1.at_] _) (by simp[aA,Value.oneCell']) (by omega) (by unfold maxLen;omega) (by omega) (by simp;omega) _ rfl ?_;intro g cp w3 hown' hgrow hgat aeQ;have hb3:Below w.heap.size w2 w3:=((Below.refl w.heap.size w2).alloc (by omega) _).drew.grown hgrow (by show w.heap.size≤(w2.alloc _).heap.size;simp;omega) (fun k hk=>(Oe.out.lt k hk).1);have Iy:=Oc.out.same (hb3.block ib hil);have c03:=Iy.cell (j:=0) (v:=.slice va L.length vc) rfl;have cf3:∀ j,w3.frozen? ⟨ib,j,none⟩=false:=fun j=>Iy.frozen j;simp only[Nat.add_zero] at c03;have Z5:=hid Iy;have HB3:=hid hb3;have NT:=hid hown';clear Iy hb3 hown' hgrow hgat)
    all_goals
     go_wp2_with fail
     have wK:=(HP2.out.Iu HB3.out hpl hv1 hv2).store hne h1 h2 io (.slice (some ⟨g,0,none⟩) (L.length+1) cp)
     have EU:=ownsRow_setCell_below (a:=⟨ib,io,none⟩) NT.out hil (.slice (some ⟨g,0,none⟩) (L.length+1) cp)
     have hs4:=Z5.out.set 0 (.slice (some ⟨g,0,none⟩) (L.length+1) cp)
     have hw4:=(UU.out.vT HB3.out hil).setCell 0 (by omega) (.slice (some ⟨g,0,none⟩) (L.length+1) cp)
     simp only[Nat.add_zero] at hs4 hw4
     have aeR:=hw4.size
     refine(mX _ pb s (aj s t1) 5 wK).mono ?_;rintro e w5 ⟨rfl,wL,hb5⟩
     have wZ:=hid wL
     have BK:=hid (hs4.same (hb5.block ib (by omega) hne))
     have HW5:=hid (hw4.but hb5 hil hne)
     have UW:=hid (show w5.ownsRow w.heap.size 131 2 (.slice (some ⟨g,0,none⟩) (L.length+1) cp) (L++[t1]).length ((L++[t1]).flatMap aA) by
      have:=au (w':=w5) EU (fun gg hgg=>hb5.block gg (EU.lt gg hgg).2 (by have:=(EU.lt gg hgg).1;omega))
      simpa using this)
     clear wK EU hs4 hw4 wL hb5 e0 e1 c0 c0a c03 cf3
     cases hk5:((aj s t1).kind==5)
     case' true=>
      have HZ:=hid (show R=(true,aj s (aj s t1),L++[t1]) by rw[← HFV.out];simp only[namesT,hf,hk5,if_true])
      rw[hk5] at wZ
      go_wp2_with fail
      go_ret
      exact⟨_,by rw[HZ.out];rfl,by rw[HZ.out];exact wZ.out,BK.out,by rw[HZ.out];exact UW.out,fun hh=>(by rw[HZ.out] at hh;simp at hh),HW5.out⟩
     case' false=>
      have HZ:=hid (show namesT s gk' (aj s t1) (L++[t1])=R by rw[← HFV.out];simp only[namesT,hf,hk5,if_true];rw[if_neg (by decide)])
      rw[hk5] at wZ
      have UY:t1.at_<(aj s t1).at_:=by have:=iP s t1;have:=Iw.out.pos (by have:=HAT.out;omega);omega
      have HT2:=hid Iw.out.next
      go_wp2_with fail
      go_roundg gk'
      case rel=>exact⟨(aj s t1),L++[t1],_,by omega,by simp;omega,HZ,wZ,HT2,BK,UW,hid (fun hh=>by simp at hh),HW5⟩
      case measure=>omega
structure iy where
 kind:Nat
 name:aF
 fields:List bD
 names:List aF
 base:List Value
 answer:List Value
structure bY where
 it:iy
 vf:Value
 vn:Value
def aT:List Value:=[.string ⟨#[]⟩,.int .i64 0]
def iG (x:bY):List Value:=[.int .i64 x.it.kind]++aA x.it.name++[x.vf]++[x.vn]++x.it.base++x.it.answer
def mY:List Value:=[.int .i64 0,.string ⟨#[]⟩,.int .i64 0,.slice none 0 0,.slice none 0 0,.string ⟨#[]⟩,.int .i64 0,.string ⟨#[]⟩,.int .i64 0]
structure yE (w:World) (lo:Nat) (x:bY):Prop where
 f:w.ownsRow lo 278 7 x.vf x.it.fields.length (x.it.fields.flatMap fJ)
 n:w.ownsRow lo 131 2 x.vn x.it.names.length (x.it.names.flatMap aA)
def bZ (s:ByteArray) (t:aF):Bool × aF × iy :=
 if aH t aX=true then
  (if bC (aj s t)=true then((jf s (aj s (aj s t))).1,(jf s (aj s (aj s t))).2.1,⟨0,aj s t,(jf s (aj s (aj s t))).2.2,[],aT,aT⟩) else(false,aj s t,⟨0,t,[],[],aT,aT⟩))
 else if aH t kR=true then
  (if bC (aj s t)=true then((jg s (aj s (aj s t))).1,(jg s (aj s (aj s t))).2.1,⟨1,aj s t,[],(jg s (aj s (aj s t))).2.2,aT,aT⟩) else(false,aj s t,⟨1,t,[],[],aT,aT⟩))
 else if aH t dV=true then
  (if bC (aj s t)=true then(dI (aj s (aj s t)),dH (dI (aj s (aj s t))) s (aj s (aj s t)),⟨2,aj s t,[],[],aA (aj s (aj s t)),aT⟩) else(false,aj s t,⟨2,t,[],[],aT,aT⟩))
 else if aH t iE=true then
  (if bC (aj s t)=true then
   (if dI (aj s (aj s t))=true then(dI (aj s (aj s (aj s t))),dH (dI (aj s (aj s (aj s t)))) s (aj s (aj s (aj s t))),⟨3,aj s t,[],[],aA (aj s (aj s t)),aA (aj s (aj s (aj s t)))⟩)
    else(false,aj s (aj s t),⟨3,t,[],[],aT,aT⟩))
   else(false,aj s t,⟨3,t,[],[],aT,aT⟩))
 else(false,t,⟨0,t,[],[],aT,aT⟩)
def kF (w:World) (pb:Nat) (s:ByteArray) (t:aF) (ib:Nat) (e:Ending) (w':World):Prop :=
 e=.returned (.bool (bZ s t).1)∧Ps w' pb s (bZ s t).2.1∧Wrote w w' pb ib 0 9∧((bZ s t).1=true→∃ x:bY,x.it=(bZ s t).2.2∧Seg w' ib 135 0 (iG x)∧yE w' w.heap.size x)
theorem Iz (w:World) (pb:Nat) (s:ByteArray) (t:aF) (ib:Nat) (h:Ps w pb s t) (ht:Tk s t) (hn:Seg w ib 135 0 mY) (hne:ib≠pb) (h1:ib ≠ 0) (h2:ib ≠ 1) (hw0:aH t [109,101,115,115,97,103,101]=true) :
  Calls Tryz.prog 132 #[.pointer (some ⟨pb,0,none⟩),.pointer (some ⟨ib,0,none⟩)] w (kF w pb s t ib):=by
 have hil:=hn.lt
 have H:=hid h
 have HT:=hid ht
 have HN:=hid hn
 clear h ht hn
 generalize hI:bZ s t=R
 have HI:=hid hI
 unfold kF
 rw[hI]
 clear hI
 go_enter func132,ntmps132
 go_wp2_with fail
 refine(gW _ pb s t _ H.out).mono ?_;rintro e w0 ⟨rfl,hp0,hb0⟩
 have hx0:aH t (ByteArray.mk #[109,101,115,115,97,103,101]).toList=true:=by rw[ByteArray.toList_eq];exact hw0
 rw[hx0] at hp0 ⊢
 have hbk:=hb0
 have hsk:=HN.out.same (hbk.block ib hil hne)
 have e0:=hsk.cell (j:=0) (v:=.int .i64 0) rfl
 have ef:∀ j,w0.frozen? ⟨ib,j,none⟩=false:=fun j=>hsk.frozen j
 simp only[Nat.zero_add] at e0
 have Z7:=hid hp0
 have Rz:=hid hsk
 have Ya:=hid hbk
 clear hsk hbk hp0
 go_wp2_with fail
 have hss:=Rz.out.set 0 (.int .i64 0)
 simp only[Nat.zero_add] at hss
 have a0:=hss.part 0 1 [.int .i64 0] rfl rfl (by omega)
 have a1:=hss.part 1 2 aT rfl rfl (by omega)
 have a3:=hss.part 3 1 [.slice none 0 0] rfl rfl (by omega)
 have a4:=hss.part 4 1 [.slice none 0 0] rfl rfl (by omega)
 have a5:=hss.part 5 2 aT rfl rfl (by omega)
 have a7:=hss.part 7 2 aT rfl rfl (by omega)
 simp only[Nat.zero_add] at a0 a1 a3 a4 a5 a7
 have A0:=hid a0
 have A1:=hid a1
 have A3:=hid a3
 have A4:=hid a4
 have A5:=hid a5
 have A7:=hid a7
 have P0:=hid (Z7.out.store (nb:=ib) hne h1 h2 0 (.int .i64 0))
 have W0:=hid ((Wrote.rQ (no:=0) (n:=9) Ya.out hil hne).setCell 0 (by omega) (.int .i64 0))
 have hz0:=W0.out.size
 clear hss a0 a1 a3 a4 a5 a7 e0 ef
 have HT1:=hid HT.out.next
 refine(name_any _ pb s (aj s t) ib 1 _ _ _ P0.out A1.out hne h1 h2).mono ?_;rintro e w5 ⟨rfl,wL,hs5,hw5⟩
 have W5:=hid (W0.out.trans (hw5.wide (fo:=0) (m:=9) (by omega) (by omega)))
 have B0:=hid (hw5.seg _ _ _ (Or.inl (by simp)) A0.out)
 have B3:=hid (hw5.seg _ _ _ (Or.inr (by simp)) A3.out)
 have B4:=hid (hw5.seg _ _ _ (Or.inr (by simp)) A4.out)
 have B5:=hid (hw5.seg _ _ _ (Or.inr (by simp)) A5.out)
 have B7:=hid (hw5.seg _ _ _ (Or.inr (by simp)) A7.out)
 have S5:=hid hs5
 have P5:=hid wL
 have JD:=W5.out.size
 clear wL hs5 hw5 A0 A1 A3 A4 A5 A7 P0 W0
 cases hno:bC (aj s t)
 case' false=>
  have HX:=hid (show R.1=false∧R.2.1=aj s t by rw[← HI.out];simp[bZ,aX,hw0,hno])
  rw[hno] at P5
  go_wp2_with fail
  go_ret
  exact⟨by rw[HX.out.1];rfl,by rw[HX.out.2];exact P5.out,W5.out,fun hh=>(by rw[HX.out.1] at hh;cases hh)⟩
 case' true=>
  rw[hno] at P5
  go_wp2_with fail
  refine(Oa _ pb s (aj s (aj s t)) ib 3 _ P5.out HT1.out.next B3.out hne h1 h2).mono ?_;rintro e w6 ⟨v,rfl,P9,hs6,Qa,_,hw6⟩
  have HX:=hid (show R=((jf s (aj s (aj s t))).1,(jf s (aj s (aj s t))).2.1,⟨0,aj s t,(jf s (aj s (aj s t))).2.2,[],aT,aT⟩) by rw[← HI.out];simp[bZ,aX,hw0,hno])
  have W6:=hid (W5.out.trans (hw6.wide (fo:=0) (m:=9) (by omega) (by omega)))
  have C0:=hid (hw6.seg _ _ _ (Or.inl (by simp)) B0.out)
  have C1:=hid (hw6.seg _ _ _ (Or.inl (by simp[aA])) S5.out)
  have C4:=hid (hw6.seg _ _ _ (Or.inr (by simp)) B4.out)
  have C5:=hid (hw6.seg _ _ _ (Or.inr (by simp)) B5.out)
  have C7:=hid (hw6.seg _ _ _ (Or.inr (by simp)) B7.out)
  have S6:=hid hs6
  have O6:=hid (own_base Qa JD)
  have P6:=hid P9
  clear P9 hs6 Qa hw6
  generalize jf s (aj s (aj s t))=BB at *
  go_wp2_with fail
  go_ret
  exact⟨by rw[HX.out];rfl,by rw[HX.out];exact P6.out,W6.out,fun _=>⟨⟨⟨0,aj s t,BB.2.2,[],aT,aT⟩,v,.slice none 0 0⟩,by rw[HX.out],(((((C0.out.join C1.out).join S6.out).join C4.out).join C5.out).join C7.out),⟨O6.out,World.ownsRow_nil _ _ _ _⟩⟩⟩
theorem RD (w:World) (pb:Nat) (s:ByteArray) (t:aF) (ib:Nat) (h:Ps w pb s t) (ht:Tk s t) (hn:Seg w ib 135 0 mY) (hne:ib≠pb) (h1:ib ≠ 0) (h2:ib ≠ 1) (hw0:aH t [109,101,115,115,97,103,101]=false) (hw1:aH t [101,110,117,109]=true) :
  Calls Tryz.prog 132 #[.pointer (some ⟨pb,0,none⟩),.pointer (some ⟨ib,0,none⟩)] w (kF w pb s t ib):=by
 have hil:=hn.lt
 have H:=hid h
 have HT:=hid ht
 have HN:=hid hn
 clear h ht hn
 generalize hI:bZ s t=R
 have HI:=hid hI
 unfold kF
 rw[hI]
 clear hI
 go_enter func132,ntmps132
 go_wp2_with fail
 refine(gW _ pb s t _ H.out).mono ?_;rintro e w0 ⟨rfl,hp0,hb0⟩
 have hx0:aH t (ByteArray.mk #[109,101,115,115,97,103,101]).toList=false:=by rw[ByteArray.toList_eq];exact hw0
 rw[hx0] at hp0 ⊢
 go_wp2_with fail
 refine(gW _ pb s t _ hp0).mono ?_;rintro e w1 ⟨rfl,hp1,hb1⟩
 have hx1:aH t (ByteArray.mk #[101,110,117,109]).toList=true:=by rw[ByteArray.toList_eq];exact hw1
 rw[hx1] at hp1 ⊢
 have hbk:=(hb0.trans hb1)
 have hsk:=HN.out.same (hbk.block ib hil hne)
 have e0:=hsk.cell (j:=0) (v:=.int .i64 0) rfl
 have ef:∀ j,w1.frozen? ⟨ib,j,none⟩=false:=fun j=>hsk.frozen j
 simp only[Nat.zero_add] at e0
 have Z7:=hid hp1
 have Rz:=hid hsk
 have Ya:=hid hbk
 clear hsk hbk hp1
 go_wp2_with fail
 have hss:=Rz.out.set 0 (.int .i64 1)
 simp only[Nat.zero_add] at hss
 have a0:=hss.part 0 1 [.int .i64 1] rfl rfl (by omega)
 have a1:=hss.part 1 2 aT rfl rfl (by omega)
 have a3:=hss.part 3 1 [.slice none 0 0] rfl rfl (by omega)
 have a4:=hss.part 4 1 [.slice none 0 0] rfl rfl (by omega)
 have a5:=hss.part 5 2 aT rfl rfl (by omega)
 have a7:=hss.part 7 2 aT rfl rfl (by omega)
 simp only[Nat.zero_add] at a0 a1 a3 a4 a5 a7
 have A0:=hid a0
 have A1:=hid a1
 have A3:=hid a3
 have A4:=hid a4
 have A5:=hid a5
 have A7:=hid a7
 have P0:=hid (Z7.out.store (nb:=ib) hne h1 h2 0 (.int .i64 1))
 have W0:=hid ((Wrote.rQ (no:=0) (n:=9) Ya.out hil hne).setCell 0 (by omega) (.int .i64 1))
 have hz0:=W0.out.size
 clear hss a0 a1 a3 a4 a5 a7 e0 ef
 have HT1:=hid HT.out.next
 refine(name_any _ pb s (aj s t) ib 1 _ _ _ P0.out A1.out hne h1 h2).mono ?_;rintro e w5 ⟨rfl,wL,hs5,hw5⟩
 have W5:=hid (W0.out.trans (hw5.wide (fo:=0) (m:=9) (by omega) (by omega)))
 have B0:=hid (hw5.seg _ _ _ (Or.inl (by simp)) A0.out)
 have B3:=hid (hw5.seg _ _ _ (Or.inr (by simp)) A3.out)
 have B4:=hid (hw5.seg _ _ _ (Or.inr (by simp)) A4.out)
 have B5:=hid (hw5.seg _ _ _ (Or.inr (by simp)) A5.out)
 have B7:=hid (hw5.seg _ _ _ (Or.inr (by simp)) A7.out)
 have S5:=hid hs5
 have P5:=hid wL
 have JD:=W5.out.size
 clear wL hs5 hw5 A0 A1 A3 A4 A5 A7 P0 W0
 cases hno:bC (aj s t)
 case' false=>
  have HX:=hid (show R.1=false∧R.2.1=aj s t by rw[← HI.out];simp[bZ,aX,kR,hw0,hw1,hno])
  rw[hno] at P5
  go_wp2_with fail
  go_ret
  exact⟨by rw[HX.out.1];rfl,by rw[HX.out.2];exact P5.out,W5.out,fun hh=>(by rw[HX.out.1] at hh;cases hh)⟩
 case' true=>
  rw[hno] at P5
  go_wp2_with fail
  refine(Og _ pb s (aj s (aj s t)) ib 4 _ P5.out HT1.out.next B4.out hne h1 h2).mono ?_;rintro e w6 ⟨v,rfl,P9,hs6,Qa,_,hw6⟩
  have HX:=hid (show R=((jg s (aj s (aj s t))).1,(jg s (aj s (aj s t))).2.1,⟨1,aj s t,[],(jg s (aj s (aj s t))).2.2,aT,aT⟩) by rw[← HI.out];simp[bZ,aX,kR,hw0,hw1,hno])
  have W6:=hid (W5.out.trans (hw6.wide (fo:=0) (m:=9) (by omega) (by omega)))
  have C0:=hid (hw6.seg _ _ _ (Or.inl (by simp)) B0.out)
  have C1:=hid (hw6.seg _ _ _ (Or.inl (by simp[aA])) S5.out)
  have C3:=hid (hw6.seg _ _ _ (Or.inl (by simp)) B3.out)
  have C5:=hid (hw6.seg _ _ _ (Or.inr (by simp)) B5.out)
  have C7:=hid (hw6.seg _ _ _ (Or.inr (by simp)) B7.out)
  have S6:=hid hs6
  have O6:=hid (own_base Qa JD)
  have P6:=hid P9
  clear P9 hs6 Qa hw6
  generalize jg s (aj s (aj s t))=BB at *
  go_wp2_with fail
  go_ret
  exact⟨by rw[HX.out];rfl,by rw[HX.out];exact P6.out,W6.out,fun _=>⟨⟨⟨1,aj s t,[],BB.2.2,aT,aT⟩,.slice none 0 0,v⟩,by rw[HX.out],(((((C0.out.join C1.out).join C3.out).join S6.out).join C5.out).join C7.out),⟨World.ownsRow_nil _ _ _ _,O6.out⟩⟩⟩
theorem Ku (w:World) (pb:Nat) (s:ByteArray) (t:aF) (ib:Nat) (h:Ps w pb s t) (ht:Tk s t) (hn:Seg w ib 135 0 mY) (hne:ib≠pb) (h1:ib ≠ 0) (h2:ib ≠ 1) (hw0:aH t [109,101,115,115,97,103,101]=false) (hw1:aH t [101,110,117,109]=false) (hw2:aH t [115,116,114,101,97,109]=true) :
  Calls Tryz.prog 132 #[.pointer (some ⟨pb,0,none⟩),.pointer (some ⟨ib,0,none⟩)] w (kF w pb s t ib):=by
 have hil:=hn.lt
 have H:=hid h
 have HT:=hid ht
 have HN:=hid hn
 clear h ht hn
 generalize hI:bZ s t=R
 have HI:=hid hI
 unfold kF
 rw[hI]
 clear hI
 go_enter func132,ntmps132
 go_wp2_with fail
 refine(gW _ pb s t _ H.out).mono ?_;rintro e w0 ⟨rfl,hp0,hb0⟩
 have hx0:aH t (ByteArray.mk #[109,101,115,115,97,103,101]).toList=false:=by rw[ByteArray.toList_eq];exact hw0
 rw[hx0] at hp0 ⊢
 go_wp2_with fail
 refine(gW _ pb s t _ hp0).mono ?_;rintro e w1 ⟨rfl,hp1,hb1⟩
 have hx1:aH t (ByteArray.mk #[101,110,117,109]).toList=false:=by rw[ByteArray.toList_eq];exact hw1
 rw[hx1] at hp1 ⊢
 go_wp2_with fail
 refine(gW _ pb s t _ hp1).mono ?_;rintro e w2 ⟨rfl,hp2,hb2⟩
 have hx2:aH t (ByteArray.mk #[115,116,114,101,97,109]).toList=true:=by rw[ByteArray.toList_eq];exact hw2
 rw[hx2] at hp2 ⊢
 have hbk:=((hb0.trans hb1).trans hb2)
 have hsk:=HN.out.same (hbk.block ib hil hne)
 have e0:=hsk.cell (j:=0) (v:=.int .i64 0) rfl
 have ef:∀ j,w2.frozen? ⟨ib,j,none⟩=false:=fun j=>hsk.frozen j
 simp only[Nat.zero_add] at e0
 have Z7:=hid hp2
 have Rz:=hid hsk
 have Ya:=hid hbk
 clear hsk hbk hp2
 go_wp2_with fail
 have hss:=Rz.out.set 0 (.int .i64 2)
 simp only[Nat.zero_add] at hss
 have a0:=hss.part 0 1 [.int .i64 2] rfl rfl (by omega)
 have a1:=hss.part 1 2 aT rfl rfl (by omega)
 have a3:=hss.part 3 1 [.slice none 0 0] rfl rfl (by omega)
 have a4:=hss.part 4 1 [.slice none 0 0] rfl rfl (by omega)
 have a5:=hss.part 5 2 aT rfl rfl (by omega)
 have a7:=hss.part 7 2 aT rfl rfl (by omega)
 simp only[Nat.zero_add] at a0 a1 a3 a4 a5 a7
 have A0:=hid a0
 have A1:=hid a1
 have A3:=hid a3
 have A4:=hid a4
 have A5:=hid a5
 have A7:=hid a7
 have P0:=hid (Z7.out.store (nb:=ib) hne h1 h2 0 (.int .i64 2))
 have W0:=hid ((Wrote.rQ (no:=0) (n:=9) Ya.out hil hne).setCell 0 (by omega) (.int .i64 2))
 have hz0:=W0.out.size
 clear hss a0 a1 a3 a4 a5 a7 e0 ef
 have HT1:=hid HT.out.next
 refine(name_any _ pb s (aj s t) ib 1 _ _ _ P0.out A1.out hne h1 h2).mono ?_;rintro e w5 ⟨rfl,wL,hs5,hw5⟩
 have W5:=hid (W0.out.trans (hw5.wide (fo:=0) (m:=9) (by omega) (by omega)))
 have B0:=hid (hw5.seg _ _ _ (Or.inl (by simp)) A0.out)
 have B3:=hid (hw5.seg _ _ _ (Or.inr (by simp)) A3.out)
 have B4:=hid (hw5.seg _ _ _ (Or.inr (by simp)) A4.out)
 have B5:=hid (hw5.seg _ _ _ (Or.inr (by simp)) A5.out)
 have B7:=hid (hw5.seg _ _ _ (Or.inr (by simp)) A7.out)
 have S5:=hid hs5
 have P5:=hid wL
 have JD:=W5.out.size
 clear wL hs5 hw5 A0 A1 A3 A4 A5 A7 P0 W0
 cases hno:bC (aj s t)
 case' false=>
  have HX:=hid (show R.1=false∧R.2.1=aj s t by rw[← HI.out];simp[bZ,aX,kR,dV,hw0,hw1,hw2,hno])
  rw[hno] at P5
  go_wp2_with fail
  go_ret
  exact⟨by rw[HX.out.1];rfl,by rw[HX.out.2];exact P5.out,W5.out,fun hh=>(by rw[HX.out.1] at hh;cases hh)⟩
 case' true=>
  rw[hno] at P5
  go_wp2_with fail
  refine(yC _ pb s (aj s (aj s t)) ib 5 _ _ _ P5.out B5.out hne h1 h2).mono ?_;rintro e w6 ⟨rfl,P9,hs6,hw6⟩
  have HX:=hid (show R=(dI (aj s (aj s t)),dH (dI (aj s (aj s t))) s (aj s (aj s t)),⟨2,aj s t,[],[],aA (aj s (aj s t)),aT⟩) by rw[← HI.out];simp[bZ,aX,kR,dV,hw0,hw1,hw2,hno])
  have W6:=hid (W5.out.trans (hw6.wide (fo:=0) (m:=9) (by omega) (by omega)))
  have C0:=hid (hw6.seg _ _ _ (Or.inl (by simp)) B0.out)
  have C1:=hid (hw6.seg _ _ _ (Or.inl (by simp[aA])) S5.out)
  have C3:=hid (hw6.seg _ _ _ (Or.inl (by simp)) B3.out)
  have C4:=hid (hw6.seg _ _ _ (Or.inl (by simp)) B4.out)
  have C7:=hid (hw6.seg _ _ _ (Or.inr (by simp)) B7.out)
  have S6:=hid hs6
  have P6:=hid P9
  clear P9 hs6 hw6
  go_wp2_with fail
  go_ret
  exact⟨by rw[HX.out];rfl,by rw[HX.out];exact P6.out,W6.out,fun _=>⟨⟨⟨2,aj s t,[],[],aA (aj s (aj s t)),aT⟩,.slice none 0 0,.slice none 0 0⟩,by rw[HX.out],(((((C0.out.join C1.out).join C3.out).join C4.out).join S6.out).join C7.out),⟨World.ownsRow_nil _ _ _ _,World.ownsRow_nil _ _ _ _⟩⟩⟩
theorem RF (w:World) (pb:Nat) (s:ByteArray) (t:aF) (ib:Nat) (h:Ps w pb s t) (ht:Tk s t) (hn:Seg w ib 135 0 mY) (hne:ib≠pb) (h1:ib ≠ 0) (h2:ib ≠ 1) (hw0:aH t [109,101,115,115,97,103,101]=false) (hw1:aH t [101,110,117,109]=false) (hw2:aH t [115,116,114,101,97,109]=false) (hw3:aH t [99,97,108,108]=true) :
  Calls Tryz.prog 132 #[.pointer (some ⟨pb,0,none⟩),.pointer (some ⟨ib,0,none⟩)] w (kF w pb s t ib):=by
 have hil:=hn.lt
 have H:=hid h
 have HT:=hid ht
 have HN:=hid hn
 clear h ht hn
 generalize hI:bZ s t=R
 have HI:=hid hI
 unfold kF
 rw[hI]
 clear hI
 go_enter func132,ntmps132
 go_wp2_with fail
 refine(gW _ pb s t _ H.out).mono ?_;rintro e w0 ⟨rfl,hp0,hb0⟩
 have hx0:aH t (ByteArray.mk #[109,101,115,115,97,103,101]).toList=false:=by rw[ByteArray.toList_eq];exact hw0
 rw[hx0] at hp0 ⊢
 go_wp2_with fail
 refine(gW _ pb s t _ hp0).mono ?_;rintro e w1 ⟨rfl,hp1,hb1⟩
 have hx1:aH t (ByteArray.mk #[101,110,117,109]).toList=false:=by rw[ByteArray.toList_eq];exact hw1
 rw[hx1] at hp1 ⊢
 go_wp2_with fail
 refine(gW _ pb s t _ hp1).mono ?_;rintro e w2 ⟨rfl,hp2,hb2⟩
 have hx2:aH t (ByteArray.mk #[115,116,114,101,97,109]).toList=false:=by rw[ByteArray.toList_eq];exact hw2
 rw[hx2] at hp2 ⊢
 go_wp2_with fail
 refine(gW _ pb s t _ hp2).mono ?_;rintro e w3 ⟨rfl,hp3,hb3⟩
 have hx3:aH t (ByteArray.mk #[99,97,108,108]).toList=true:=by rw[ByteArray.toList_eq];exact hw3
 rw[hx3] at hp3 ⊢
 have hbk:=(((hb0.trans hb1).trans hb2).trans hb3)
 have hsk:=HN.out.same (hbk.block ib hil hne)
 have e0:=hsk.cell (j:=0) (v:=.int .i64 0) rfl
 have ef:∀ j,w3.frozen? ⟨ib,j,none⟩=false:=fun j=>hsk.frozen j
 simp only[Nat.zero_add] at e0
 have Z7:=hid hp3
 have Rz:=hid hsk
 have Ya:=hid hbk
 clear hsk hbk hp3
 go_wp2_with fail
 have hss:=Rz.out.set 0 (.int .i64 3)
 simp only[Nat.zero_add] at hss
 have a0:=hss.part 0 1 [.int .i64 3] rfl rfl (by omega)
 have a1:=hss.part 1 2 aT rfl rfl (by omega)
 have a3:=hss.part 3 1 [.slice none 0 0] rfl rfl (by omega)
 have a4:=hss.part 4 1 [.slice none 0 0] rfl rfl (by omega)
 have a5:=hss.part 5 2 aT rfl rfl (by omega)
 have a7:=hss.part 7 2 aT rfl rfl (by omega)
 simp only[Nat.zero_add] at a0 a1 a3 a4 a5 a7
 have A0:=hid a0
 have A1:=hid a1
 have A3:=hid a3
 have A4:=hid a4
 have A5:=hid a5
 have A7:=hid a7
 have P0:=hid (Z7.out.store (nb:=ib) hne h1 h2 0 (.int .i64 3))
 have W0:=hid ((Wrote.rQ (no:=0) (n:=9) Ya.out hil hne).setCell 0 (by omega) (.int .i64 3))
 have hz0:=W0.out.size
 clear hss a0 a1 a3 a4 a5 a7 e0 ef
 have HT1:=hid HT.out.next
 refine(name_any _ pb s (aj s t) ib 1 _ _ _ P0.out A1.out hne h1 h2).mono ?_;rintro e w5 ⟨rfl,wL,hs5,hw5⟩
 have W5:=hid (W0.out.trans (hw5.wide (fo:=0) (m:=9) (by omega) (by omega)))
 have B0:=hid (hw5.seg _ _ _ (Or.inl (by simp)) A0.out)
 have B3:=hid (hw5.seg _ _ _ (Or.inr (by simp)) A3.out)
 have B4:=hid (hw5.seg _ _ _ (Or.inr (by simp)) A4.out)
 have B5:=hid (hw5.seg _ _ _ (Or.inr (by simp)) A5.out)
 have B7:=hid (hw5.seg _ _ _ (Or.inr (by simp)) A7.out)
 have S5:=hid hs5
 have P5:=hid wL
 have JD:=W5.out.size
 clear wL hs5 hw5 A0 A1 A3 A4 A5 A7 P0 W0
 cases hno:bC (aj s t)
 case' false=>
  have HX:=hid (show R.1=false∧R.2.1=aj s t by rw[← HI.out];simp[bZ,aX,kR,dV,iE,hw0,hw1,hw2,hw3,hno])
  rw[hno] at P5
  go_wp2_with fail
  go_ret
  exact⟨by rw[HX.out.1];rfl,by rw[HX.out.2];exact P5.out,W5.out,fun hh=>(by rw[HX.out.1] at hh;cases hh)⟩
 case' true=>
  rw[hno] at P5
  go_wp2_with fail
  refine(yC _ pb s (aj s (aj s t)) ib 5 _ _ _ P5.out B5.out hne h1 h2).mono ?_;rintro e w6 ⟨rfl,P9,hs6,hw6⟩
  have W6:=hid (W5.out.trans (hw6.wide (fo:=0) (m:=9) (by omega) (by omega)))
  have C0:=hid (hw6.seg _ _ _ (Or.inl (by simp)) B0.out)
  have C1:=hid (hw6.seg _ _ _ (Or.inl (by simp[aA])) S5.out)
  have C3:=hid (hw6.seg _ _ _ (Or.inl (by simp)) B3.out)
  have C4:=hid (hw6.seg _ _ _ (Or.inl (by simp)) B4.out)
  have C7:=hid (hw6.seg _ _ _ (Or.inr (by simp)) B7.out)
  have S6:=hid hs6
  have P6:=hid P9
  clear P9 hs6 hw6 B0 B3 B4 B5 B7 S5 P5
  cases vS:dI (aj s (aj s t))
  case' false=>
   have HX:=hid (show R.1=false∧R.2.1=aj s (aj s t) by rw[← HI.out];simp[bZ,aX,kR,dV,iE,hw0,hw1,hw2,hw3,hno,vS])
   rw[vS] at P6
   go_wp2_with fail
   go_ret
   exact⟨by rw[HX.out.1];rfl,by rw[HX.out.2];exact P6.out,W6.out,fun hh=>(by rw[HX.out.1] at hh;cases hh)⟩
  case' true=>
   rw[vS] at P6
   have HX:=hid (show R=(dI (aj s (aj s (aj s t))),dH (dI (aj s (aj s (aj s t)))) s (aj s (aj s (aj s t))),⟨3,aj s t,[],[],aA (aj s (aj s t)),aA (aj s (aj s (aj s t)))⟩) by rw[← HI.out];simp[bZ,aX,kR,dV,iE,hw0,hw1,hw2,hw3,hno,vS])
   go_wp2_with fail
   refine(yC _ pb s (aj s (aj s (aj s t))) ib 7 _ _ _ P6.out C7.out hne h1 h2).mono ?_;rintro e w7 ⟨rfl,hp7,hs7,hw7⟩
   have W7:=hid (W6.out.trans (hw7.wide (fo:=0) (m:=9) (by omega) (by omega)))
   have D0:=hid (hw7.seg _ _ _ (Or.inl (by simp)) C0.out)
   have D1:=hid (hw7.seg _ _ _ (Or.inl (by simp[aA])) C1.out)
   have D3:=hid (hw7.seg _ _ _ (Or.inl (by simp)) C3.out)
   have D4:=hid (hw7.seg _ _ _ (Or.inl (by simp)) C4.out)
   have D5:=hid (hw7.seg _ _ _ (Or.inl (by simp[aA])) S6.out)
   have S7:=hid hs7
   have P7:=hid hp7
   clear hp7 hs7 hw7
   go_wp2_with fail
   go_ret
   exact⟨by rw[HX.out];rfl,by rw[HX.out];exact P7.out,W7.out,fun _=>⟨⟨⟨3,aj s t,[],[],aA (aj s (aj s t)),aA (aj s (aj s (aj s t)))⟩,.slice none 0 0,.slice none 0 0⟩,by rw[HX.out],(((((D0.out.join D1.out).join D3.out).join D4.out).join D5.out).join S7.out),⟨World.ownsRow_nil _ _ _ _,World.ownsRow_nil _ _ _ _⟩⟩⟩
theorem RG (w:World) (pb:Nat) (s:ByteArray) (t:aF) (ib:Nat) (h:Ps w pb s t) (ht:Tk s t) (hn:Seg w ib 135 0 mY) (hne:ib≠pb) (_h1:ib ≠ 0) (_h2:ib ≠ 1) (hw0:aH t [109,101,115,115,97,103,101]=false) (hw1:aH t [101,110,117,109]=false) (hw2:aH t [115,116,114,101,97,109]=false) (hw3:aH t [99,97,108,108]=false) :
  Calls Tryz.prog 132 #[.pointer (some ⟨pb,0,none⟩),.pointer (some ⟨ib,0,none⟩)] w (kF w pb s t ib):=by
 have hil:=hn.lt
 have H:=hid h
 have HT:=hid ht
 have HN:=hid hn
 clear h ht hn
 generalize hI:bZ s t=R
 have HI:=hid hI
 unfold kF
 rw[hI]
 clear hI
 have HX:=hid (show R.1=false∧R.2.1=t by rw[← HI.out];simp[bZ,aX,kR,dV,iE,hw0,hw1,hw2,hw3])
 go_enter func132,ntmps132
 go_wp2_with fail
 refine(gW _ pb s t _ H.out).mono ?_;rintro e w0 ⟨rfl,hp0,hb0⟩
 have hx0:aH t (ByteArray.mk #[109,101,115,115,97,103,101]).toList=false:=by rw[ByteArray.toList_eq];exact hw0
 rw[hx0] at hp0 ⊢
 go_wp2_with fail
 refine(gW _ pb s t _ hp0).mono ?_;rintro e w1 ⟨rfl,hp1,hb1⟩
 have hx1:aH t (ByteArray.mk #[101,110,117,109]).toList=false:=by rw[ByteArray.toList_eq];exact hw1
 rw[hx1] at hp1 ⊢
 go_wp2_with fail
 refine(gW _ pb s t _ hp1).mono ?_;rintro e w2 ⟨rfl,hp2,hb2⟩
 have hx2:aH t (ByteArray.mk #[115,116,114,101,97,109]).toList=false:=by rw[ByteArray.toList_eq];exact hw2
 rw[hx2] at hp2 ⊢
 go_wp2_with fail
 refine(gW _ pb s t _ hp2).mono ?_;rintro e w3 ⟨rfl,hp3,hb3⟩
 have hx3:aH t (ByteArray.mk #[99,97,108,108]).toList=false:=by rw[ByteArray.toList_eq];exact hw3
 rw[hx3] at hp3 ⊢
 have hbk:=((hb0.trans hb1).trans hb2).trans hb3
 go_wp2_with fail
 go_ret
 exact⟨by rw[HX.out.1];rfl,by rw[HX.out.2];exact hp3,Wrote.rQ hbk hil hne,fun hh=>(by rw[HX.out.1] at hh;cases hh)⟩
theorem UZ (w:World) (pb:Nat) (s:ByteArray) (t:aF) (ib:Nat) (h:Ps w pb s t) (ht:Tk s t) (hn:Seg w ib 135 0 mY) (hne:ib≠pb) (h1:ib ≠ 0) (h2:ib ≠ 1) :
  Calls Tryz.prog 132 #[.pointer (some ⟨pb,0,none⟩),.pointer (some ⟨ib,0,none⟩)] w (kF w pb s t ib):=by
 cases e0:aH t [109,101,115,115,97,103,101]
 ·cases e1:aH t [101,110,117,109]
  ·cases e2:aH t [115,116,114,101,97,109]
   ·cases e3:aH t [99,97,108,108]
    ·exact RG w pb s t ib h ht hn hne h1 h2 e0 e1 e2 e3
    ·exact RF w pb s t ib h ht hn hne h1 h2 e0 e1 e2 e3
   ·exact Ku w pb s t ib h ht hn hne h1 h2 e0 e1 e2
  ·exact RD w pb s t ib h ht hn hne h1 h2 e0 e1
 ·exact Iz w pb s t ib h ht hn hne h1 h2 e0
end Go.Proofs.YtgalebcpagmohaaGreatDoor
