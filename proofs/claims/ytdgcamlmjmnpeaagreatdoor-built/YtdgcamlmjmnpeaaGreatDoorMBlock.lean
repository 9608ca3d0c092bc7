/- The parser of package schemas: field. -/
import Derived.Test.YtdgcamlmjmnpeaaGreatDoorMProgName
import Derived.Test.YtdgcamlmjmnpeaaGreatDoorMRead
import Derived.Deep.RegionLaw
import Derived.Deep.AppendLies
namespace Go.Proofs.YtdgcamlmjmnpeaaGreatDoor
open Go.RowKit
theorem Wrote.wide {w w':World} {pb nb no n fo m:Nat} (h:Wrote w w' pb nb no n) (h1:fo ≤ no) (h2:no + n ≤ fo + m):Wrote w w' pb nb fo m :=
 ⟨h.os,h.tape,h.output,h.size,h.block,fun T p xs hp hs=>h.seg T p xs (by omega) hs,h.len⟩
theorem Wrote.trans {a b c:World} {pb nb no n:Nat} (h:Wrote a b pb nb no n) (k:Wrote b c pb nb no n):Wrote a c pb nb no n :=
 ⟨k.os.trans h.os,k.tape.trans h.tape,k.output.trans h.output,Nat.le_trans h.size k.size,fun i hi hp hn=>(k.block i (Nat.lt_of_lt_of_le hi h.size) hp hn).trans (h.block i hi hp hn),fun T p xs hp hs=>k.seg T p xs hp (h.seg T p xs hp hs),fun T cur hc=>by
  obtain ⟨c',h1,h2⟩:=h.len T cur hc
  obtain ⟨c'',h3,h4⟩:=k.len T c' h1
  exact ⟨c'',h3,by omega⟩⟩
theorem Seg.join {w:World} {b:Nat} {T:TypeId} {o:Nat} {xs ys:List Value} (h:Seg w b T o xs) (k:Seg w b T (o + xs.length) ys):Seg w b T o (xs ++ ys):=by
 obtain ⟨cur,hb,hs,ht⟩:=h
 obtain ⟨cur',hb',hs',ht'⟩:=k
 rw [hb] at hb'
 simp only [Option.some.injEq,Obj.cells.injEq,and_true,and_self] at hb'
 subst hb'
 refine ⟨cur,hb,by rw [List.length_append];omega,?_⟩
 rw [List.length_append,List.take_add,ht,List.drop_drop,ht']
def fieldT (s:ByteArray) (t0:PTok):Bool × PTok :=
 if (t0.kind == 3) = true then
  if nameOk (nextP s t0) = true then
   if baseOk (afterT (shapeOk (nextP s (nextP s t0))) s (nextP s (nextP s t0))) = true then (true,nextP s (afterT (shapeOk (nextP s (nextP s t0))) s (nextP s (nextP s t0))))
   else (false,afterT (shapeOk (nextP s (nextP s t0))) s (nextP s (nextP s t0)))
  else (false,nextP s t0)
 else (false,t0)
structure PField where
 number:Int
 numberAt:Nat
 name:ByteArray
 nameAt:Nat
 shape:Nat
 base:ByteArray
 baseAt:Nat
def pfCells (f:PField):List Value:=[.int .i64 f.number,.int .i64 f.numberAt,.string f.name,.int .i64 f.nameAt,.int .i64 f.shape,.string f.base,.int .i64 f.baseAt]
def fieldV (s:ByteArray) (t0:PTok) (n:Int):PField :=
 ⟨n,t0.at_,(nextP s t0).text,(nextP s t0).at_,shapeP (nextP s (nextP s t0)),(afterT (shapeOk (nextP s (nextP s t0))) s (nextP s (nextP s t0))).text,(afterT (shapeOk (nextP s (nextP s t0))) s (nextP s (nextP s t0))).at_⟩
set_option maxRecDepth 100000 in
set_option maxHeartbeats 2000000 in
theorem field_any (w:World) (pb:Nat) (s:ByteArray) (t:PTok) (fb:Nat) (T:TypeId) (d0 d1 d2 d3 d4 d5 d6:Value) (h:Ps w pb s t) (hn:Seg w fb T 0 [d0,d1,d2,d3,d4,d5,d6]) (hne:fb ≠ pb) (h1:fb ≠ 1) (h2:fb ≠ 2) :
  Calls Tryz.prog 77 #[.pointer (some ⟨pb,0,none⟩),.pointer (some ⟨fb,0,none⟩)] w fun e w'=>e = .returned (.bool (fieldT s t).1) ∧ Ps w' pb s (fieldT s t).2 ∧ Wrote w w' pb fb 0 7 ∧ ((fieldT s t).1 = true → ∃ n:Int,(numB t.text.toList = true → n = numI t.text.toList) ∧ Seg w' fb T 0 (pfCells (fieldV s t n))):=by
 have a0:=hn.part 0 2 [d0,d1] rfl rfl (by omega)
 have a1:=hn.part 2 2 [d2,d3] rfl rfl (by omega)
 have a2:=hn.part 4 1 [d4] rfl rfl (by omega)
 have a3:=hn.part 5 2 [d5,d6] rfl rfl (by omega)
 simp only [Nat.zero_add] at a0 a1 a2 a3
 generalize hF:fieldT s t = F
 have HF:=hid hF
 have H:=hid h
 have A0:=hid a0
 have A1:=hid a1
 have A2:=hid a2
 have A3:=hid a3
 clear h hn hF a0 a1 a2 a3
 go_enter Tryz.func77,Tryz.ntmps77
 go_wp2_with fail
 refine (number_any _ pb s t fb 0 T d0 d1 H.out A0.out hne h1 h2).mono ?_;rintro e w1 ⟨n,rfl,hnum,hp1,hs1,hw1⟩
 have HNM:=hid hnum
 have W1:=hid (hw1.wide (fo:=0) (m:=7) (by omega) (by omega))
 have B1:=hid (hw1.seg _ _ _ (Or.inr (by simp)) A1.out)
 have B2:=hid (hw1.seg _ _ _ (Or.inr (by simp)) A2.out)
 have B3:=hid (hw1.seg _ _ _ (Or.inr (by simp)) A3.out)
 have S1:=hid hs1
 have P1:=hid hp1
 clear hnum hw1 hs1 hp1 A0 A1 A2 A3
 cases hk:(t.kind == 3)
 case' false =>
  have HX:=hid (show F = (false,t) by rw [← HF.out];simp [fieldT,hk])
  rw [hk] at P1
  go_wp2_with fail
  go_ret
  exact ⟨by rw [HX.out];rfl,by rw [HX.out];exact P1.out,W1.out,fun hh=>by rw [HX.out] at hh;cases hh⟩
 case' true =>
  rw [hk] at P1
  go_wp2_with fail
  refine (name_any _ pb s (nextP s t) fb 2 T d2 d3 P1.out B1.out hne h1 h2).mono ?_;rintro e w2 ⟨rfl,hp2,hs2,hw2⟩
  have W2:=hid (W1.out.trans (hw2.wide (fo:=0) (m:=7) (by omega) (by omega)))
  have C0:=hid (hw2.seg _ _ _ (Or.inl (by simp)) S1.out)
  have C2:=hid (hw2.seg _ _ _ (Or.inr (by simp)) B2.out)
  have C3:=hid (hw2.seg _ _ _ (Or.inr (by simp)) B3.out)
  have S2:=hid hs2
  have P2:=hid hp2
  clear hp2 hs2 hw2 B1 B2 B3 S1 P1 W1
  cases hno:nameOk (nextP s t)
  case' false =>
   have HX:=hid (show F = (false,nextP s t) by rw [← HF.out];simp [fieldT,hk,hno])
   rw [hno] at P2
   go_wp2_with fail
   go_ret
   exact ⟨by rw [HX.out];rfl,by rw [HX.out];exact P2.out,W2.out,fun hh=>by rw [HX.out] at hh;cases hh⟩
  case' true =>
   rw [hno] at P2
   go_wp2_with fail
   refine (shape_any _ pb s (nextP s (nextP s t)) fb 4 T d4 P2.out C2.out hne h1 h2).mono ?_;rintro e w3 ⟨rfl,hp3,hs3,hw3⟩
   have W3:=hid (W2.out.trans (hw3.wide (fo:=0) (m:=7) (by omega) (by omega)))
   have D0:=hid (hw3.seg _ _ _ (Or.inl (by simp)) C0.out)
   have D1:=hid (hw3.seg _ _ _ (Or.inl (by simp [nameCells])) S2.out)
   have D3:=hid (hw3.seg _ _ _ (Or.inr (by simp)) C3.out)
   have S3:=hid hs3
   have P3:=hid hp3
   clear hp3 hs3 hw3 C0 C2 C3 S2 P2 W2
   go_wp2_with fail
   refine (base_any _ pb s (afterT (shapeOk (nextP s (nextP s t))) s (nextP s (nextP s t))) fb 5 T d5 d6 P3.out D3.out hne h1 h2).mono ?_;rintro e w4 ⟨rfl,hp4,hs4,hw4⟩
   have W4:=hid (W3.out.trans (hw4.wide (fo:=0) (m:=7) (by omega) (by omega)))
   have E0:=hid (hw4.seg _ _ _ (Or.inl (by simp)) D0.out)
   have E1:=hid (hw4.seg _ _ _ (Or.inl (by simp [nameCells])) D1.out)
   have E2:=hid (hw4.seg _ _ _ (Or.inl (by simp)) S3.out)
   have P4:=hid hp4
   have S4:=hid hs4
   clear hp4 hs4 hw4 D0 D1 D3 S3 P3 W3
   cases hbo:baseOk (afterT (shapeOk (nextP s (nextP s t))) s (nextP s (nextP s t)))
   case' false =>
    have HX:=hid (show F = (false,afterT (shapeOk (nextP s (nextP s t))) s (nextP s (nextP s t))) by rw [← HF.out];simp [fieldT,hk,hno,hbo])
    rw [hbo] at P4
    go_wp2_with fail
    go_ret
    exact ⟨by rw [HX.out];rfl,by rw [HX.out];exact P4.out,W4.out,fun hh=>by rw [HX.out] at hh;cases hh⟩
   case' true =>
    have HX:=hid (show F = (true,nextP s (afterT (shapeOk (nextP s (nextP s t))) s (nextP s (nextP s t)))) by rw [← HF.out];simp [fieldT,hk,hno,hbo])
    rw [hbo] at P4
    go_wp2_with fail
    go_ret
    exact ⟨by rw [HX.out];rfl,by rw [HX.out];exact P4.out,W4.out,fun _=>⟨n,HNM.out,((E0.out.join E1.out).join E2.out).join S4.out⟩⟩
end Go.Proofs.YtdgcamlmjmnpeaaGreatDoor
namespace Go.Proofs.YtdgcamlmjmnpeaaGreatDoor
open Go.RowKit
def Tk (s:ByteArray) (t:PTok):Prop:=∃ i,i ≤ s.size ∧ t = scanP s i
theorem bEnd_ge (s:ByteArray) (i:Nat):i ≤ bEnd s i:=by
 unfold bEnd
 have:∀ f i,i ≤ blankEnd s f i:=by
  intro f
  induction f with
  | zero=>intro i;exact Nat.le_refl _
  | succ f ih =>
   intro i;unfold blankEnd;split
   ·exact Nat.le_trans (Nat.le_succ i) (ih (i + 1))
   ·exact Nat.le_refl _
 exact this _ _
theorem Tk.fit {s:ByteArray} {t:PTok} (h:Tk s t):t.at_ + t.text.size ≤ s.size:=by
 obtain ⟨i,hi,rfl⟩:=h
 exact scanAt_fit s _ (bEnd_le s i hi)
theorem Tk.next {s:ByteArray} {t:PTok} (h:Tk s t):Tk s (nextP s t):=⟨_,h.fit,rfl⟩
theorem Tk.after {s:ByteArray} {t:PTok} (h:Tk s t) (b:Bool):Tk s (afterT b s t):=by
 cases b
 ·exact h
 ·exact h.next
theorem scanAt_at (s:ByteArray) (k:Nat):(scanAt s k).at_ = k:=by
 unfold scanAt;split
 ·rfl
 ·split <;> rfl
theorem next_at (s:ByteArray) (t:PTok):t.at_ + t.text.size ≤ (nextP s t).at_:=by
 unfold nextP scanP;rw [scanAt_at];exact bEnd_ge s _
theorem after_at (s:ByteArray) (t:PTok) (b:Bool):t.at_ ≤ (afterT b s t).at_:=by
 cases b
 ·exact Nat.le_refl _
 ·have:=next_at s t;show t.at_ ≤ (nextP s t).at_;omega
theorem markK_cases (c:Int):markK c = 4 ∨ markK c = 5 ∨ markK c = 1:=by
 unfold markK;split
 ·simp
 ·split <;> simp
theorem Tk.num {s:ByteArray} {t:PTok} (h:Tk s t) (hk:t.kind = 3):numB t.text.toList = true:=by
 obtain ⟨i,hi,rfl⟩:=h
 unfold scanP scanAt at *
 split at hk
 ·simp at hk
 ·split at hk
  ·rename_i h1 h2
   rcases markK_cases (B s (bEnd s i)) with h | h | h <;> (simp only at hk;omega)
  ·rename_i h1 h2
   rw [if_neg h1,if_neg h2]
   simp only [runK] at hk ⊢
   split at hk
   ·omega
   ·split at hk
    ·assumption
    ·omega
theorem Tk.pos {s:ByteArray} {t:PTok} (h:Tk s t) (hk:t.kind ≠ 0):1 ≤ t.text.size:=by
 obtain ⟨i,hi,rfl⟩:=h
 have hb:=bEnd_le s i hi
 unfold scanP scanAt at *
 split at hk
 ·simp at hk
 ·rename_i h1
  rw [if_neg h1]
  split
  ·simp [ByteArray.size_extract];omega
  ·rename_i h2
   have h3:=runEnd_ge s s.size (bEnd s i)
   have h4:=runEnd_le s s.size (bEnd s i) hb
   simp [ByteArray.size_extract];omega
theorem fieldT_tk {s:ByteArray} {t:PTok} (h:Tk s t):Tk s (fieldT s t).2:=by
 unfold fieldT
 split
 ·split
  ·split
   ·exact ((h.next.next).after _).next
   ·exact (h.next.next).after _
  ·exact h.next
 ·exact h
theorem fieldT_at {s:ByteArray} {t:PTok} (h:Tk s t) (hf:(fieldT s t).1 = true):t.at_ < (fieldT s t).2.at_ ∧ t.kind = 3:=by
 unfold fieldT at *
 split at hf
 ·rename_i hk
  have hk3:t.kind = 3:=eq_of_beq hk
  have hp:=h.pos (by omega)
  split at hf
  ·split at hf
   ·rename_i h1 h2
    rw [if_pos hk,if_pos h1,if_pos h2]
    refine ⟨?_,hk3⟩
    have a1:=next_at s t
    have a2:=next_at s (nextP s t)
    have a3:=after_at s (nextP s (nextP s t)) (shapeOk (nextP s (nextP s t)))
    have a4:=next_at s (afterT (shapeOk (nextP s (nextP s t))) s (nextP s (nextP s t)))
    simp only
    omega
   ·simp at hf
  ·simp at hf
 ·simp at hf
def fieldsT (s:ByteArray):Nat → PTok → List PField → Bool × PTok × List PField
 | 0,t,L=>(false,t,L)
 | f + 1,t,L =>
  if (fieldT s t).1 = true then
   if ((fieldT s t).2.kind == 5) = true then (true,nextP s (fieldT s t).2,L ++ [fieldV s t (numI t.text.toList)])
   else fieldsT s f (fieldT s t).2 (L ++ [fieldV s t (numI t.text.toList)])
  else (false,(fieldT s t).2,L)
def blockF (s:ByteArray) (t:PTok):Bool × PTok × List PField:=if (t.kind == 4) = true then fieldsT s (s.size + 1) (nextP s t) [] else (false,t,[])
end Go.Proofs.YtdgcamlmjmnpeaaGreatDoor
namespace Go.Proofs.YtdgcamlmjmnpeaaGreatDoor
open Go.RowKit
theorem Tryz.infoPField:(Tryz.prog.info? 152).map (fun i=>(i.zero,i.size,i.bytes)) = some (some (.agg #[.int .i64 0,.int .i64 0,.string ⟨#[]⟩,.int .i64 0,.int .i64 0,.string ⟨#[]⟩,.int .i64 0]),7,72):=by kernel_rfl
theorem Ps.belowAt {w w':World} {pb B:Nat} {s:ByteArray} {t:PTok} (h:Ps w pb s t) (hb:Below B w w') (h0:pb < B) (h1:1 < B) (h2:2 < B):Ps w' pb s t:=by
 obtain ⟨te,pe,e1⟩:=h.vars.sx
 obtain ⟨tf,pf,e2⟩:=h.vars.rg
 exact ⟨h.seg.same (hb.block pb h0),⟨⟨te,pe,by rw [hb.cell h1];exact e1⟩,⟨tf,pf,by rw [hb.cell h2];exact e2⟩,Nat.lt_of_lt_of_le h.vars.lt1 hb.size,Nat.lt_of_lt_of_le h.vars.lt2 hb.size⟩,h.ne1,h.ne2,h.fit,h.sz⟩
theorem Wrote.thenBelow {w w' w'':World} {pb nb no n:Nat} (h:Wrote w w' pb nb no n) (hb:Below w.heap.size w' w'') (hl:nb < w.heap.size):Wrote w w'' pb nb no n :=
 ⟨hb.os.trans h.os,hb.tape.trans h.tape,hb.output.trans h.output,Nat.le_trans h.size hb.size,fun k hk hp hn=>(hb.block k hk).trans (h.block k hk hp hn),fun T p xs hp hs=>(h.seg T p xs hp hs).same (hb.block nb hl),fun T cur hc=>by
  obtain ⟨c',h1,h2⟩:=h.len T cur hc
  exact ⟨c',by rw [hb.block nb hl];exact h1,h2⟩⟩
theorem Wrote.box {w w' w'':World} {pb nb no n fb fo m:Nat} (h:Wrote w w' pb nb no n) (k:Wrote w' w'' pb fb fo m) (hf:w.heap.size ≤ fb) (hl:nb < w.heap.size) (hne:nb ≠ pb):Wrote w w'' pb nb no n :=
 have hsame:w''.heap[nb]? = w'.heap[nb]?:=k.block nb (Nat.lt_of_lt_of_le hl h.size) hne (by omega)
 ⟨k.os.trans h.os,k.tape.trans h.tape,k.output.trans h.output,Nat.le_trans h.size k.size,fun i hi hp hn=>(k.block i (Nat.lt_of_lt_of_le hi h.size) hp (by omega)).trans (h.block i hi hp hn),fun T p xs hp hs=>(h.seg T p xs hp hs).same hsame,fun T cur hc=>by
  obtain ⟨c',h1,h2⟩:=h.len T cur hc
  exact ⟨c',by rw [hsame];exact h1,h2⟩⟩
set_option maxRecDepth 100000 in
set_option maxHeartbeats 4000000 in
theorem blockF_any (w:World) (pb:Nat) (s:ByteArray) (t:PTok) (ib io:Nat) (T:TypeId) (h:Ps w pb s t) (ht:Tk s t) (hl:Seg w ib T io [.slice none 0 0]) (hne:ib ≠ pb) (h1:ib ≠ 1) (h2:ib ≠ 2) :
  Calls Tryz.prog 76 #[.pointer (some ⟨pb,0,none⟩),.pointer (some ⟨ib,io,none⟩),.func (Fn.func 77) #[.pointer (some ⟨pb,0,none⟩)] #[]] w fun e w'=>∃ v,e = .returned (.bool (blockF s t).1) ∧ Ps w' pb s (blockF s t).2.1 ∧ Seg w' ib T io [v] ∧ w'.ownsRow w.heap.size 152 7 v (blockF s t).2.2.length ((blockF s t).2.2.flatMap pfCells) ∧ ((blockF s t).2.2 = [] → v = .slice none 0 0) ∧ Wrote w w' pb ib io 1:=by
 obtain ⟨iF,hiF,hF0,hF1,hF2⟩:=info_parts Tryz.infoPField
 have hpl:=h.seg.lt
 have hil:=hl.lt
 have hv1:=h.vars.lt1
 have hv2:=h.vars.lt2
 have hsz:=h.sz
 generalize hR:blockF s t = R
 have HR:=hid hR
 have H:=hid h
 have HT:=hid ht
 have HL:=hid hl
 clear h ht hl hR
 go_enter Tryz.func76,Tryz.ntmps76
 go_wp2_with fail
 refine (mark_any _ pb s t 4 H.out).mono ?_;rintro e w1 ⟨rfl,hp1,hb1⟩
 cases hk:(t.kind == 4)
 case' false =>
  have HX:=hid (show R = (false,t,[]) by rw [← HR.out];simp [blockF,hk])
  rw [hk] at hp1
  go_wp2_with fail
  go_ret
  exact ⟨.slice none 0 0,by rw [HX.out];rfl,by rw [HX.out];exact hp1,HL.out.same (hb1.block ib hil hne),by rw [HX.out];exact World.ownsRow_nil _ _ _ _,fun _=>rfl,Wrote.ofBut hb1 hil hne⟩
 case' true =>
  have HX:=hid (show fieldsT s (s.size + 1) (nextP s t) [] = R by rw [← HR.out];simp [blockF,hk])
  rw [hk] at hp1
  have HP1:=hid hp1
  have HW1:=hid (Wrote.ofBut (no:=io) (n:=1) hb1 hil hne)
  have HL1:=hid (HL.out.same (hb1.block ib hil hne))
  clear hp1 hb1
  go_wp2_with fail
  go_loopg [7] (s.size + 1) (fun gk one wr=>∃ t1 L v,s.size < t1.at_ + gk ∧ L.length ≤ t1.at_ ∧ Hid (fieldsT s gk t1 L = R) ∧ Hid (Ps wr pb s t1) ∧ Hid (Tk s t1) ∧ Hid (Seg wr ib T io [v]) ∧ Hid (wr.ownsRow w.heap.size 152 7 v L.length (L.flatMap pfCells)) ∧ Hid (L = [] → v = .slice none 0 0) ∧ Hid (Wrote w wr pb ib io 1))
  case atStart=>exact ⟨nextP s t,[],.slice none 0 0,by omega,by simp,HX,HP1,hid HT.out.next,HL1,hid (World.ownsRow_nil _ _ _ _),hid (fun _=>rfl),HW1⟩
  case round =>
   obtain ⟨t1,L,v,hgk,hLl,HFS,HP,HTK,HLC,HOW,HNL,HWR⟩:=hrel
   obtain ⟨va,vc,hvv⟩:∃ a c,v = .slice a L.length c:=own_slice HOW.out
   subst hvv
   have hfit:=HTK.out.fit
   obtain ⟨gk',rfl⟩:∃ gk',gk = gk' + 1:=⟨gk - 1,by omega⟩
   have hws:=HWR.out.size
   go_wp2_with fail
   have hbox:Seg (wr.alloc (.cells #[.int .i64 0,.int .i64 0,.string ⟨#[]⟩,.int .i64 0,.int .i64 0,.string ⟨#[]⟩,.int .i64 0] 152)) wr.heap.size 152 0 [.int .i64 0,.int .i64 0,.string ⟨#[]⟩,.int .i64 0,.int .i64 0,.string ⟨#[]⟩,.int .i64 0]:=⟨_,heap_alloc_new wr _,by simp,by simp⟩
   have hb0:Below wr.heap.size wr (wr.alloc (.cells #[.int .i64 0,.int .i64 0,.string ⟨#[]⟩,.int .i64 0,.int .i64 0,.string ⟨#[]⟩,.int .i64 0] 152)):=(Below.refl _ _).alloc (Nat.le_refl _) _
   refine (field_any _ pb s t1 wr.heap.size 152 _ _ _ _ _ _ _ (HP.out.below hb0) hbox (by omega) (by omega) (by omega)).mono ?_;rintro e w2 ⟨rfl,hp2,hw2,hfd⟩
   have hfl:wr.heap.size < w2.heap.size:=Nat.lt_of_lt_of_le (by simp) hw2.size
   have hib2:w2.heap[ib]? = wr.heap[ib]?:=(hw2.block ib (by simp;omega) hne (by omega)).trans (hb0.block ib (by omega))
   have hlc2:=HLC.out.same hib2
   have how2:=own_same (w':=w2) HOW.out (fun g hg=>by
    have hlt:=HOW.out.lt g hg
    exact (hw2.block g (by simp;omega) (by omega) (by omega)).trans (hb0.block g hlt.2))
   have hwr2:Wrote w w2 pb ib io 1:=(HWR.out.thenBelow (hb0.mono hws) hil).box hw2 hws hil hne
   have HP2:=hid hp2
   have HLC2:=hid hlc2
   have HOW2:=hid how2
   have HWR2:=hid hwr2
   have HFD:=hid hfd
   clear hp2 hw2 hfd hib2 hlc2 how2 hwr2 hbox hb0 HP HLC HOW HWR
   cases hf:(fieldT s t1).1
   case' false =>
    have HY:=hid (show R = (false,(fieldT s t1).2,L) by rw [← HFS.out];simp [fieldsT,hf])
    go_wp2_with fail
    go_ret
    exact ⟨_,by rw [HY.out];rfl,by rw [HY.out];exact HP2.out,HLC2.out,by rw [HY.out];exact HOW2.out,by rw [HY.out];exact HNL.out,HWR2.out⟩
   case' true =>
    obtain ⟨n,hn,hseg⟩:=HFD.out hf
    have hat:=fieldT_at HTK.out hf
    rw [hn (HTK.out.num hat.2)] at hseg
    have e0:=hseg.cell (j:=0) (v:=.int .i64 (fieldV s t1 (numI t1.text.toList)).number) rfl
    have e1:=hseg.cell (j:=1) (v:=.int .i64 (fieldV s t1 (numI t1.text.toList)).numberAt) rfl
    have e2:=hseg.cell (j:=2) (v:=.string (fieldV s t1 (numI t1.text.toList)).name) rfl
    have e3:=hseg.cell (j:=3) (v:=.int .i64 (fieldV s t1 (numI t1.text.toList)).nameAt) rfl
    have e4:=hseg.cell (j:=4) (v:=.int .i64 (fieldV s t1 (numI t1.text.toList)).shape) rfl
    have e5:=hseg.cell (j:=5) (v:=.string (fieldV s t1 (numI t1.text.toList)).base) rfl
    have e6:=hseg.cell (j:=6) (v:=.int .i64 (fieldV s t1 (numI t1.text.toList)).baseAt) rfl
    have c0:=HLC2.out.cell (j:=0) (v:=.slice va L.length vc) rfl
    simp only [Nat.zero_add,Nat.add_zero] at e0 e1 e2 e3 e4 e5 e6 c0
    have c0a:=alloc_cell c0 (show ib < w2.heap.size by omega)
    have HAT:=hid hat
    have HFV:=hid (show fieldsT s (gk' + 1) t1 L = R from HFS.out)
    generalize hfv:fieldV s t1 (numI t1.text.toList) = fv at *
    have HFW:=hid hfv
    clear hn hseg hfv HFS HFD
    go_wp2_with fail
    go_region_law (refine step_append_lies _ rfl (.tmp 17) (.tmp 19) 95 rfl w.heap.size 152 iF _ 7 72 Tryz.underlying95 hiF hF0 hF1 hF2 rfl (by decide) _ _ _ (by simp [Act.eval]) (HOW2.out.alloc _) ⟨w2.heap.size,0,none⟩ 1 1 (pfCells fv) (by simp [Act.eval]) rfl (cells_new w2 #[.int .i64 fv.number,.int .i64 fv.numberAt,.string fv.name,.int .i64 fv.nameAt,.int .i64 fv.shape,.string fv.base,.int .i64 fv.baseAt] _) (by simp [pfCells,Value.oneCell']) (by omega) (by unfold maxLen;omega) (by omega) (by simp;omega) _ rfl ?_;intro g cp w3 hown' hgrow hgat hglt;have hb3:Below w.heap.size w2 w3:=((Below.refl w.heap.size w2).alloc (by omega) _).drew.grown hgrow (by show w.heap.size ≤ (w2.alloc _).heap.size;simp;omega) (fun k hk=>(HOW2.out.lt k hk).1);have hlc3:=HLC2.out.same (hb3.block ib hil);have c03:=hlc3.cell (j:=0) (v:=.slice va L.length vc) rfl;have cf3:∀ j,w3.frozen? ⟨ib,j,none⟩ = false:=fun j=>hlc3.frozen j;simp only [Nat.add_zero] at c03;have HLC3:=hid hlc3;have HB3:=hid hb3;have HO3:=hid hown';clear hlc3 hb3 hown' hgrow hgat)
    all_goals
     go_wp2_with fail
     have hp4:=(HP2.out.belowAt HB3.out hpl hv1 hv2).store hne h1 h2 io (.slice (some ⟨g,0,none⟩) (L.length + 1) cp)
     have ho4:=ownsRow_setCell_below (a:=⟨ib,io,none⟩) HO3.out hil (.slice (some ⟨g,0,none⟩) (L.length + 1) cp)
     have hs4:=HLC3.out.set 0 (.slice (some ⟨g,0,none⟩) (L.length + 1) cp)
     have hw4:=(HWR2.out.thenBelow HB3.out hil).setCell 0 (by omega) (.slice (some ⟨g,0,none⟩) (L.length + 1) cp)
     simp only [Nat.add_zero] at hs4 hw4
     have hw4s:=hw4.size
     refine (mark_any _ pb s (fieldT s t1).2 5 hp4).mono ?_;rintro e w5 ⟨rfl,hp5,hb5⟩
     have HP5:=hid hp5
     have HS5:=hid (hs4.same (hb5.block ib (by omega) hne))
     have HW5:=hid (hw4.but hb5 hil hne)
     have HO5:=hid (show w5.ownsRow w.heap.size 152 7 (.slice (some ⟨g,0,none⟩) (L.length + 1) cp) (L ++ [fv]).length ((L ++ [fv]).flatMap pfCells) by
      have:=own_same (w':=w5) ho4 (fun gg hgg=>hb5.block gg (ho4.lt gg hgg).2 (by have:=(ho4.lt gg hgg).1;omega))
      simpa using this)
     clear hp4 ho4 hs4 hw4 hp5 hb5 e0 e1 e2 e3 e4 e5 e6 c0 c0a c03 cf3
     cases hk5:((fieldT s t1).2.kind == 5)
     case' true =>
      have HZ:=hid (show R = (true,nextP s (fieldT s t1).2,L ++ [fv]) by rw [← HFV.out];simp only [fieldsT,hf,hk5,if_true,HFW.out])
      rw [hk5] at HP5
      go_wp2_with fail
      go_ret
      exact ⟨_,by rw [HZ.out];rfl,by rw [HZ.out];exact HP5.out,HS5.out,by rw [HZ.out];exact HO5.out,fun hh=>(by rw [HZ.out] at hh;simp at hh),HW5.out⟩
     case' false =>
      have HZ:=hid (show fieldsT s gk' (fieldT s t1).2 (L ++ [fv]) = R by rw [← HFV.out];simp only [fieldsT,hf,hk5,if_true,HFW.out];rw [if_neg (by decide)])
      rw [hk5] at HP5
      have hat2:=HAT.out.1
      have HT2:=hid (fieldT_tk HTK.out)
      go_wp2_with fail
      go_roundg gk'
      case rel=>exact ⟨(fieldT s t1).2,L ++ [fv],_,by omega,by simp;omega,HZ,HP5,HT2,HS5,HO5,hid (fun hh=>by simp at hh),HW5⟩
      case measure=>omega
end Go.Proofs.YtdgcamlmjmnpeaaGreatDoor
namespace Go.Proofs.YtdgcamlmjmnpeaaGreatDoor
open Go.RowKit
theorem Tryz.infoPName:(Tryz.prog.info? 94).map (fun i=>(i.zero,i.size,i.bytes)) = some (some (.agg #[.string ⟨#[]⟩,.int .i64 0]),2,24):=by kernel_rfl
def namesT (s:ByteArray):Nat → PTok → List PTok → Bool × PTok × List PTok
 | 0,t,L=>(false,t,L)
 | f + 1,t,L =>
  if nameOk t = true then
   if ((nextP s t).kind == 5) = true then (true,nextP s (nextP s t),L ++ [t])
   else namesT s f (nextP s t) (L ++ [t])
  else (false,t,L)
def blockN (s:ByteArray) (t:PTok):Bool × PTok × List PTok:=if (t.kind == 4) = true then namesT s (s.size + 1) (nextP s t) [] else (false,t,[])
set_option maxRecDepth 100000 in
set_option maxHeartbeats 4000000 in
theorem blockN_any (w:World) (pb:Nat) (s:ByteArray) (t:PTok) (ib io:Nat) (T:TypeId) (h:Ps w pb s t) (ht:Tk s t) (hl:Seg w ib T io [.slice none 0 0]) (hne:ib ≠ pb) (h1:ib ≠ 1) (h2:ib ≠ 2) :
  Calls Tryz.prog 78 #[.pointer (some ⟨pb,0,none⟩),.pointer (some ⟨ib,io,none⟩),.func (Fn.func 75) #[.pointer (some ⟨pb,0,none⟩)] #[]] w fun e w'=>∃ v,e = .returned (.bool (blockN s t).1) ∧ Ps w' pb s (blockN s t).2.1 ∧ Seg w' ib T io [v] ∧ w'.ownsRow w.heap.size 94 2 v (blockN s t).2.2.length ((blockN s t).2.2.flatMap nameCells) ∧ ((blockN s t).2.2 = [] → v = .slice none 0 0) ∧ Wrote w w' pb ib io 1:=by
 obtain ⟨iF,hiF,hF0,hF1,hF2⟩:=info_parts Tryz.infoPName
 have hpl:=h.seg.lt
 have hil:=hl.lt
 have hv1:=h.vars.lt1
 have hv2:=h.vars.lt2
 have hsz:=h.sz
 generalize hR:blockN s t = R
 have HR:=hid hR
 have H:=hid h
 have HT:=hid ht
 have HL:=hid hl
 clear h ht hl hR
 go_enter Tryz.func78,Tryz.ntmps78
 go_wp2_with fail
 refine (mark_any _ pb s t 4 H.out).mono ?_;rintro e w1 ⟨rfl,hp1,hb1⟩
 cases hk:(t.kind == 4)
 case' false =>
  have HX:=hid (show R = (false,t,[]) by rw [← HR.out];simp [blockN,hk])
  rw [hk] at hp1
  go_wp2_with fail
  go_ret
  exact ⟨.slice none 0 0,by rw [HX.out];rfl,by rw [HX.out];exact hp1,HL.out.same (hb1.block ib hil hne),by rw [HX.out];exact World.ownsRow_nil _ _ _ _,fun _=>rfl,Wrote.ofBut hb1 hil hne⟩
 case' true =>
  have HX:=hid (show namesT s (s.size + 1) (nextP s t) [] = R by rw [← HR.out];simp [blockN,hk])
  rw [hk] at hp1
  have HP1:=hid hp1
  have HW1:=hid (Wrote.ofBut (no:=io) (n:=1) hb1 hil hne)
  have HL1:=hid (HL.out.same (hb1.block ib hil hne))
  clear hp1 hb1
  go_wp2_with fail
  go_loopg [7] (s.size + 1) (fun gk one wr=>∃ t1 L v,s.size < t1.at_ + gk ∧ L.length ≤ t1.at_ ∧ Hid (namesT s gk t1 L = R) ∧ Hid (Ps wr pb s t1) ∧ Hid (Tk s t1) ∧ Hid (Seg wr ib T io [v]) ∧ Hid (wr.ownsRow w.heap.size 94 2 v L.length (L.flatMap nameCells)) ∧ Hid (L = [] → v = .slice none 0 0) ∧ Hid (Wrote w wr pb ib io 1))
  case atStart=>exact ⟨nextP s t,[],.slice none 0 0,by omega,by simp,HX,HP1,hid HT.out.next,HL1,hid (World.ownsRow_nil _ _ _ _),hid (fun _=>rfl),HW1⟩
  case round =>
   obtain ⟨t1,L,v,hgk,hLl,HFS,HP,HTK,HLC,HOW,HNL,HWR⟩:=hrel
   obtain ⟨va,vc,hvv⟩:∃ a c,v = .slice a L.length c:=own_slice HOW.out
   subst hvv
   have hfit:=HTK.out.fit
   obtain ⟨gk',rfl⟩:∃ gk',gk = gk' + 1:=⟨gk - 1,by omega⟩
   have hws:=HWR.out.size
   go_wp2_with fail
   have hbox:Seg (wr.alloc (.cells #[.string ⟨#[]⟩,.int .i64 0] 94)) wr.heap.size 94 0 [.string ⟨#[]⟩,.int .i64 0]:=⟨_,heap_alloc_new wr _,by simp,by simp⟩
   have hb0:Below wr.heap.size wr (wr.alloc (.cells #[.string ⟨#[]⟩,.int .i64 0] 94)):=(Below.refl _ _).alloc (Nat.le_refl _) _
   refine (name_any _ pb s t1 wr.heap.size 0 94 _ _ (HP.out.below hb0) hbox (by omega) (by omega) (by omega)).mono ?_;rintro e w2 ⟨rfl,hp2,hfd,hw2⟩
   have hfl:wr.heap.size < w2.heap.size:=Nat.lt_of_lt_of_le (by simp) hw2.size
   have hib2:w2.heap[ib]? = wr.heap[ib]?:=(hw2.block ib (by simp;omega) hne (by omega)).trans (hb0.block ib (by omega))
   have hlc2:=HLC.out.same hib2
   have how2:=own_same (w':=w2) HOW.out (fun g hg=>by
    have hlt:=HOW.out.lt g hg
    exact (hw2.block g (by simp;omega) (by omega) (by omega)).trans (hb0.block g hlt.2))
   have hwr2:Wrote w w2 pb ib io 1:=(HWR.out.thenBelow (hb0.mono hws) hil).box hw2 hws hil hne
   have HP2:=hid hp2
   have HLC2:=hid hlc2
   have HOW2:=hid how2
   have HWR2:=hid hwr2
   have HFD:=hid hfd
   clear hp2 hw2 hfd hib2 hlc2 how2 hwr2 hbox hb0 HP HLC HOW HWR
   cases hf:nameOk t1
   case' false =>
    have HY:=hid (show R = (false,t1,L) by rw [← HFS.out];simp [namesT,hf])
    go_wp2_with fail
    go_ret
    exact ⟨_,by rw [HY.out];rfl,by rw [HY.out];rw [hf] at HP2;exact HP2.out,HLC2.out,by rw [HY.out];exact HOW2.out,by rw [HY.out];exact HNL.out,HWR2.out⟩
   case' true =>
    have hat:t1.kind = 2:=by simp only [nameOk,Bool.and_eq_true] at hf;exact eq_of_beq hf.2
    have e0:=HFD.out.cell (j:=0) (v:=.string t1.text) rfl
    have e1:=HFD.out.cell (j:=1) (v:=.int .i64 t1.at_) rfl
    rw [hf] at HP2
    have c0:=HLC2.out.cell (j:=0) (v:=.slice va L.length vc) rfl
    simp only [Nat.zero_add,Nat.add_zero] at e0 e1 c0
    have c0a:=alloc_cell c0 (show ib < w2.heap.size by omega)
    have HAT:=hid hat
    have HFV:=hid (show namesT s (gk' + 1) t1 L = R from HFS.out)
    clear HFS HFD
    go_wp2_with fail
    go_region_law (refine step_append_lies _ rfl (.tmp 17) (.tmp 19) 96 rfl w.heap.size 94 iF _ 2 24 Tryz.underlying96 hiF hF0 hF1 hF2 rfl (by decide) _ _ _ (by simp [Act.eval]) (HOW2.out.alloc _) ⟨w2.heap.size,0,none⟩ 1 1 (nameCells t1) (by simp [Act.eval]) rfl (cells_new w2 #[.string t1.text,.int .i64 t1.at_] _) (by simp [nameCells,Value.oneCell']) (by omega) (by unfold maxLen;omega) (by omega) (by simp;omega) _ rfl ?_;intro g cp w3 hown' hgrow hgat hglt;have hb3:Below w.heap.size w2 w3:=((Below.refl w.heap.size w2).alloc (by omega) _).drew.grown hgrow (by show w.heap.size ≤ (w2.alloc _).heap.size;simp;omega) (fun k hk=>(HOW2.out.lt k hk).1);have hlc3:=HLC2.out.same (hb3.block ib hil);have c03:=hlc3.cell (j:=0) (v:=.slice va L.length vc) rfl;have cf3:∀ j,w3.frozen? ⟨ib,j,none⟩ = false:=fun j=>hlc3.frozen j;simp only [Nat.add_zero] at c03;have HLC3:=hid hlc3;have HB3:=hid hb3;have HO3:=hid hown';clear hlc3 hb3 hown' hgrow hgat)
    all_goals
     go_wp2_with fail
     have hp4:=(HP2.out.belowAt HB3.out hpl hv1 hv2).store hne h1 h2 io (.slice (some ⟨g,0,none⟩) (L.length + 1) cp)
     have ho4:=ownsRow_setCell_below (a:=⟨ib,io,none⟩) HO3.out hil (.slice (some ⟨g,0,none⟩) (L.length + 1) cp)
     have hs4:=HLC3.out.set 0 (.slice (some ⟨g,0,none⟩) (L.length + 1) cp)
     have hw4:=(HWR2.out.thenBelow HB3.out hil).setCell 0 (by omega) (.slice (some ⟨g,0,none⟩) (L.length + 1) cp)
     simp only [Nat.add_zero] at hs4 hw4
     have hw4s:=hw4.size
     refine (mark_any _ pb s (nextP s t1) 5 hp4).mono ?_;rintro e w5 ⟨rfl,hp5,hb5⟩
     have HP5:=hid hp5
     have HS5:=hid (hs4.same (hb5.block ib (by omega) hne))
     have HW5:=hid (hw4.but hb5 hil hne)
     have HO5:=hid (show w5.ownsRow w.heap.size 94 2 (.slice (some ⟨g,0,none⟩) (L.length + 1) cp) (L ++ [t1]).length ((L ++ [t1]).flatMap nameCells) by
      have:=own_same (w':=w5) ho4 (fun gg hgg=>hb5.block gg (ho4.lt gg hgg).2 (by have:=(ho4.lt gg hgg).1;omega))
      simpa using this)
     clear hp4 ho4 hs4 hw4 hp5 hb5 e0 e1 c0 c0a c03 cf3
     cases hk5:((nextP s t1).kind == 5)
     case' true =>
      have HZ:=hid (show R = (true,nextP s (nextP s t1),L ++ [t1]) by rw [← HFV.out];simp only [namesT,hf,hk5,if_true])
      rw [hk5] at HP5
      go_wp2_with fail
      go_ret
      exact ⟨_,by rw [HZ.out];rfl,by rw [HZ.out];exact HP5.out,HS5.out,by rw [HZ.out];exact HO5.out,fun hh=>(by rw [HZ.out] at hh;simp at hh),HW5.out⟩
     case' false =>
      have HZ:=hid (show namesT s gk' (nextP s t1) (L ++ [t1]) = R by rw [← HFV.out];simp only [namesT,hf,hk5,if_true];rw [if_neg (by decide)])
      rw [hk5] at HP5
      have hat2:t1.at_ < (nextP s t1).at_:=by have:=next_at s t1;have:=HTK.out.pos (by have:=HAT.out;omega);omega
      have HT2:=hid HTK.out.next
      go_wp2_with fail
      go_roundg gk'
      case rel=>exact ⟨(nextP s t1),L ++ [t1],_,by omega,by simp;omega,HZ,HP5,HT2,HS5,HO5,hid (fun hh=>by simp at hh),HW5⟩
      case measure=>omega
end Go.Proofs.YtdgcamlmjmnpeaaGreatDoor
namespace Go.Proofs.YtdgcamlmjmnpeaaGreatDoor
open Go.RowKit
structure PItem where
 kind:Nat
 name:PTok
 fields:List PField
 names:List PTok
 base:List Value
 answer:List Value
structure PIV where
 it:PItem
 vf:Value
 vn:Value
def zeroName:List Value:=[.string ⟨#[]⟩,.int .i64 0]
def pivCells (x:PIV):List Value:=[.int .i64 x.it.kind] ++ nameCells x.it.name ++ [x.vf] ++ [x.vn] ++ x.it.base ++ x.it.answer
def zeroItem:List Value:=[.int .i64 0,.string ⟨#[]⟩,.int .i64 0,.slice none 0 0,.slice none 0 0,.string ⟨#[]⟩,.int .i64 0,.string ⟨#[]⟩,.int .i64 0]
structure PNest (w:World) (lo:Nat) (x:PIV):Prop where
 f:w.ownsRow lo 152 7 x.vf x.it.fields.length (x.it.fields.flatMap pfCells)
 n:w.ownsRow lo 94 2 x.vn x.it.names.length (x.it.names.flatMap nameCells)
def itemT (s:ByteArray) (t:PTok):Bool × PTok × PItem :=
 if isWordT t wMessage = true then
  (if nameOk (nextP s t) = true then ((blockF s (nextP s (nextP s t))).1,(blockF s (nextP s (nextP s t))).2.1,⟨0,nextP s t,(blockF s (nextP s (nextP s t))).2.2,[],zeroName,zeroName⟩) else (false,nextP s t,⟨0,t,[],[],zeroName,zeroName⟩))
 else if isWordT t wEnum = true then
  (if nameOk (nextP s t) = true then ((blockN s (nextP s (nextP s t))).1,(blockN s (nextP s (nextP s t))).2.1,⟨1,nextP s t,[],(blockN s (nextP s (nextP s t))).2.2,zeroName,zeroName⟩) else (false,nextP s t,⟨1,t,[],[],zeroName,zeroName⟩))
 else if isWordT t wStream = true then
  (if nameOk (nextP s t) = true then (baseOk (nextP s (nextP s t)),afterT (baseOk (nextP s (nextP s t))) s (nextP s (nextP s t)),⟨2,nextP s t,[],[],nameCells (nextP s (nextP s t)),zeroName⟩) else (false,nextP s t,⟨2,t,[],[],zeroName,zeroName⟩))
 else if isWordT t wCall = true then
  (if nameOk (nextP s t) = true then
   (if baseOk (nextP s (nextP s t)) = true then (baseOk (nextP s (nextP s (nextP s t))),afterT (baseOk (nextP s (nextP s (nextP s t)))) s (nextP s (nextP s (nextP s t))),⟨3,nextP s t,[],[],nameCells (nextP s (nextP s t)),nameCells (nextP s (nextP s (nextP s t)))⟩)
    else (false,nextP s (nextP s t),⟨3,t,[],[],zeroName,zeroName⟩))
   else (false,nextP s t,⟨3,t,[],[],zeroName,zeroName⟩))
 else (false,t,⟨0,t,[],[],zeroName,zeroName⟩)
def ItemPost (w:World) (pb:Nat) (s:ByteArray) (t:PTok) (ib:Nat) (e:Ending) (w':World):Prop :=
 e = .returned (.bool (itemT s t).1) ∧ Ps w' pb s (itemT s t).2.1 ∧ Wrote w w' pb ib 0 9 ∧ ((itemT s t).1 = true → ∃ x:PIV,x.it = (itemT s t).2.2 ∧ Seg w' ib 98 0 (pivCells x) ∧ PNest w' w.heap.size x)
set_option maxRecDepth 100000 in
set_option maxHeartbeats 4000000 in
theorem item_message (w:World) (pb:Nat) (s:ByteArray) (t:PTok) (ib:Nat) (h:Ps w pb s t) (ht:Tk s t) (hn:Seg w ib 98 0 zeroItem) (hne:ib ≠ pb) (h1:ib ≠ 1) (h2:ib ≠ 2) (hw0:isWordT t [109,101,115,115,97,103,101] = true) :
  Calls Tryz.prog 40 #[.pointer (some ⟨pb,0,none⟩),.pointer (some ⟨ib,0,none⟩)] w (ItemPost w pb s t ib):=by
 have hil:=hn.lt
 have H:=hid h
 have HT:=hid ht
 have HN:=hid hn
 clear h ht hn
 generalize hI:itemT s t = R
 have HI:=hid hI
 unfold ItemPost
 rw [hI]
 clear hI
 go_enter Tryz.func40,Tryz.ntmps40
 go_wp2_with fail
 refine (word_any _ pb s t _ H.out).mono ?_;rintro e w0 ⟨rfl,hp0,hb0⟩
 have hx0:isWordT t (ByteArray.mk #[109,101,115,115,97,103,101]).toList = true:=by rw [ByteArray.toList_eq];exact hw0
 rw [hx0] at hp0 ⊢
 have hbk:=hb0
 have hsk:=HN.out.same (hbk.block ib hil hne)
 have e0:=hsk.cell (j:=0) (v:=.int .i64 0) rfl
 have ef:∀ j,w0.frozen? ⟨ib,j,none⟩ = false:=fun j=>hsk.frozen j
 simp only [Nat.zero_add] at e0
 have HPK:=hid hp0
 have HSK:=hid hsk
 have HBK:=hid hbk
 clear hsk hbk hp0
 go_wp2_with fail
 have hss:=HSK.out.set 0 (.int .i64 0)
 simp only [Nat.zero_add] at hss
 have a0:=hss.part 0 1 [.int .i64 0] rfl rfl (by omega)
 have a1:=hss.part 1 2 zeroName rfl rfl (by omega)
 have a3:=hss.part 3 1 [.slice none 0 0] rfl rfl (by omega)
 have a4:=hss.part 4 1 [.slice none 0 0] rfl rfl (by omega)
 have a5:=hss.part 5 2 zeroName rfl rfl (by omega)
 have a7:=hss.part 7 2 zeroName rfl rfl (by omega)
 simp only [Nat.zero_add] at a0 a1 a3 a4 a5 a7
 have A0:=hid a0
 have A1:=hid a1
 have A3:=hid a3
 have A4:=hid a4
 have A5:=hid a5
 have A7:=hid a7
 have P0:=hid (HPK.out.store (nb:=ib) hne h1 h2 0 (.int .i64 0))
 have W0:=hid ((Wrote.ofBut (no:=0) (n:=9) HBK.out hil hne).setCell 0 (by omega) (.int .i64 0))
 have hz0:=W0.out.size
 clear hss a0 a1 a3 a4 a5 a7 e0 ef
 have HT1:=hid HT.out.next
 refine (name_any _ pb s (nextP s t) ib 1 _ _ _ P0.out A1.out hne h1 h2).mono ?_;rintro e w5 ⟨rfl,hp5,hs5,hw5⟩
 have W5:=hid (W0.out.trans (hw5.wide (fo:=0) (m:=9) (by omega) (by omega)))
 have B0:=hid (hw5.seg _ _ _ (Or.inl (by simp)) A0.out)
 have B3:=hid (hw5.seg _ _ _ (Or.inr (by simp)) A3.out)
 have B4:=hid (hw5.seg _ _ _ (Or.inr (by simp)) A4.out)
 have B5:=hid (hw5.seg _ _ _ (Or.inr (by simp)) A5.out)
 have B7:=hid (hw5.seg _ _ _ (Or.inr (by simp)) A7.out)
 have S5:=hid hs5
 have P5:=hid hp5
 have hz5:=W5.out.size
 clear hp5 hs5 hw5 A0 A1 A3 A4 A5 A7 P0 W0
 cases hno:nameOk (nextP s t)
 case' false =>
  have HX:=hid (show R.1 = false ∧ R.2.1 = nextP s t by rw [← HI.out];simp [itemT,wMessage,hw0,hno])
  rw [hno] at P5
  go_wp2_with fail
  go_ret
  exact ⟨by rw [HX.out.1];rfl,by rw [HX.out.2];exact P5.out,W5.out,fun hh=>(by rw [HX.out.1] at hh;cases hh)⟩
 case' true =>
  rw [hno] at P5
  go_wp2_with fail
  refine (blockF_any _ pb s (nextP s (nextP s t)) ib 3 _ P5.out HT1.out.next B3.out hne h1 h2).mono ?_;rintro e w6 ⟨v,rfl,hp6,hs6,ho6,_,hw6⟩
  have HX:=hid (show R = ((blockF s (nextP s (nextP s t))).1,(blockF s (nextP s (nextP s t))).2.1,⟨0,nextP s t,(blockF s (nextP s (nextP s t))).2.2,[],zeroName,zeroName⟩) by rw [← HI.out];simp [itemT,wMessage,hw0,hno])
  have W6:=hid (W5.out.trans (hw6.wide (fo:=0) (m:=9) (by omega) (by omega)))
  have C0:=hid (hw6.seg _ _ _ (Or.inl (by simp)) B0.out)
  have C1:=hid (hw6.seg _ _ _ (Or.inl (by simp [nameCells])) S5.out)
  have C4:=hid (hw6.seg _ _ _ (Or.inr (by simp)) B4.out)
  have C5:=hid (hw6.seg _ _ _ (Or.inr (by simp)) B5.out)
  have C7:=hid (hw6.seg _ _ _ (Or.inr (by simp)) B7.out)
  have S6:=hid hs6
  have O6:=hid (own_base ho6 hz5)
  have P6:=hid hp6
  clear hp6 hs6 ho6 hw6
  generalize blockF s (nextP s (nextP s t)) = BB at *
  go_wp2_with fail
  go_ret
  exact ⟨by rw [HX.out];rfl,by rw [HX.out];exact P6.out,W6.out,fun _=>⟨⟨⟨0,nextP s t,BB.2.2,[],zeroName,zeroName⟩,v,.slice none 0 0⟩,by rw [HX.out],(((((C0.out.join C1.out).join S6.out).join C4.out).join C5.out).join C7.out),⟨O6.out,World.ownsRow_nil _ _ _ _⟩⟩⟩
set_option maxRecDepth 100000 in
set_option maxHeartbeats 4000000 in
theorem item_enum (w:World) (pb:Nat) (s:ByteArray) (t:PTok) (ib:Nat) (h:Ps w pb s t) (ht:Tk s t) (hn:Seg w ib 98 0 zeroItem) (hne:ib ≠ pb) (h1:ib ≠ 1) (h2:ib ≠ 2) (hw0:isWordT t [109,101,115,115,97,103,101] = false) (hw1:isWordT t [101,110,117,109] = true) :
  Calls Tryz.prog 40 #[.pointer (some ⟨pb,0,none⟩),.pointer (some ⟨ib,0,none⟩)] w (ItemPost w pb s t ib):=by
 have hil:=hn.lt
 have H:=hid h
 have HT:=hid ht
 have HN:=hid hn
 clear h ht hn
 generalize hI:itemT s t = R
 have HI:=hid hI
 unfold ItemPost
 rw [hI]
 clear hI
 go_enter Tryz.func40,Tryz.ntmps40
 go_wp2_with fail
 refine (word_any _ pb s t _ H.out).mono ?_;rintro e w0 ⟨rfl,hp0,hb0⟩
 have hx0:isWordT t (ByteArray.mk #[109,101,115,115,97,103,101]).toList = false:=by rw [ByteArray.toList_eq];exact hw0
 rw [hx0] at hp0 ⊢
 go_wp2_with fail
 refine (word_any _ pb s t _ hp0).mono ?_;rintro e w1 ⟨rfl,hp1,hb1⟩
 have hx1:isWordT t (ByteArray.mk #[101,110,117,109]).toList = true:=by rw [ByteArray.toList_eq];exact hw1
 rw [hx1] at hp1 ⊢
 have hbk:=(hb0.trans hb1)
 have hsk:=HN.out.same (hbk.block ib hil hne)
 have e0:=hsk.cell (j:=0) (v:=.int .i64 0) rfl
 have ef:∀ j,w1.frozen? ⟨ib,j,none⟩ = false:=fun j=>hsk.frozen j
 simp only [Nat.zero_add] at e0
 have HPK:=hid hp1
 have HSK:=hid hsk
 have HBK:=hid hbk
 clear hsk hbk hp1
 go_wp2_with fail
 have hss:=HSK.out.set 0 (.int .i64 1)
 simp only [Nat.zero_add] at hss
 have a0:=hss.part 0 1 [.int .i64 1] rfl rfl (by omega)
 have a1:=hss.part 1 2 zeroName rfl rfl (by omega)
 have a3:=hss.part 3 1 [.slice none 0 0] rfl rfl (by omega)
 have a4:=hss.part 4 1 [.slice none 0 0] rfl rfl (by omega)
 have a5:=hss.part 5 2 zeroName rfl rfl (by omega)
 have a7:=hss.part 7 2 zeroName rfl rfl (by omega)
 simp only [Nat.zero_add] at a0 a1 a3 a4 a5 a7
 have A0:=hid a0
 have A1:=hid a1
 have A3:=hid a3
 have A4:=hid a4
 have A5:=hid a5
 have A7:=hid a7
 have P0:=hid (HPK.out.store (nb:=ib) hne h1 h2 0 (.int .i64 1))
 have W0:=hid ((Wrote.ofBut (no:=0) (n:=9) HBK.out hil hne).setCell 0 (by omega) (.int .i64 1))
 have hz0:=W0.out.size
 clear hss a0 a1 a3 a4 a5 a7 e0 ef
 have HT1:=hid HT.out.next
 refine (name_any _ pb s (nextP s t) ib 1 _ _ _ P0.out A1.out hne h1 h2).mono ?_;rintro e w5 ⟨rfl,hp5,hs5,hw5⟩
 have W5:=hid (W0.out.trans (hw5.wide (fo:=0) (m:=9) (by omega) (by omega)))
 have B0:=hid (hw5.seg _ _ _ (Or.inl (by simp)) A0.out)
 have B3:=hid (hw5.seg _ _ _ (Or.inr (by simp)) A3.out)
 have B4:=hid (hw5.seg _ _ _ (Or.inr (by simp)) A4.out)
 have B5:=hid (hw5.seg _ _ _ (Or.inr (by simp)) A5.out)
 have B7:=hid (hw5.seg _ _ _ (Or.inr (by simp)) A7.out)
 have S5:=hid hs5
 have P5:=hid hp5
 have hz5:=W5.out.size
 clear hp5 hs5 hw5 A0 A1 A3 A4 A5 A7 P0 W0
 cases hno:nameOk (nextP s t)
 case' false =>
  have HX:=hid (show R.1 = false ∧ R.2.1 = nextP s t by rw [← HI.out];simp [itemT,wMessage,wEnum,hw0,hw1,hno])
  rw [hno] at P5
  go_wp2_with fail
  go_ret
  exact ⟨by rw [HX.out.1];rfl,by rw [HX.out.2];exact P5.out,W5.out,fun hh=>(by rw [HX.out.1] at hh;cases hh)⟩
 case' true =>
  rw [hno] at P5
  go_wp2_with fail
  refine (blockN_any _ pb s (nextP s (nextP s t)) ib 4 _ P5.out HT1.out.next B4.out hne h1 h2).mono ?_;rintro e w6 ⟨v,rfl,hp6,hs6,ho6,_,hw6⟩
  have HX:=hid (show R = ((blockN s (nextP s (nextP s t))).1,(blockN s (nextP s (nextP s t))).2.1,⟨1,nextP s t,[],(blockN s (nextP s (nextP s t))).2.2,zeroName,zeroName⟩) by rw [← HI.out];simp [itemT,wMessage,wEnum,hw0,hw1,hno])
  have W6:=hid (W5.out.trans (hw6.wide (fo:=0) (m:=9) (by omega) (by omega)))
  have C0:=hid (hw6.seg _ _ _ (Or.inl (by simp)) B0.out)
  have C1:=hid (hw6.seg _ _ _ (Or.inl (by simp [nameCells])) S5.out)
  have C3:=hid (hw6.seg _ _ _ (Or.inl (by simp)) B3.out)
  have C5:=hid (hw6.seg _ _ _ (Or.inr (by simp)) B5.out)
  have C7:=hid (hw6.seg _ _ _ (Or.inr (by simp)) B7.out)
  have S6:=hid hs6
  have O6:=hid (own_base ho6 hz5)
  have P6:=hid hp6
  clear hp6 hs6 ho6 hw6
  generalize blockN s (nextP s (nextP s t)) = BB at *
  go_wp2_with fail
  go_ret
  exact ⟨by rw [HX.out];rfl,by rw [HX.out];exact P6.out,W6.out,fun _=>⟨⟨⟨1,nextP s t,[],BB.2.2,zeroName,zeroName⟩,.slice none 0 0,v⟩,by rw [HX.out],(((((C0.out.join C1.out).join C3.out).join S6.out).join C5.out).join C7.out),⟨World.ownsRow_nil _ _ _ _,O6.out⟩⟩⟩
set_option maxRecDepth 100000 in
set_option maxHeartbeats 4000000 in
theorem item_stream (w:World) (pb:Nat) (s:ByteArray) (t:PTok) (ib:Nat) (h:Ps w pb s t) (ht:Tk s t) (hn:Seg w ib 98 0 zeroItem) (hne:ib ≠ pb) (h1:ib ≠ 1) (h2:ib ≠ 2) (hw0:isWordT t [109,101,115,115,97,103,101] = false) (hw1:isWordT t [101,110,117,109] = false) (hw2:isWordT t [115,116,114,101,97,109] = true) :
  Calls Tryz.prog 40 #[.pointer (some ⟨pb,0,none⟩),.pointer (some ⟨ib,0,none⟩)] w (ItemPost w pb s t ib):=by
 have hil:=hn.lt
 have H:=hid h
 have HT:=hid ht
 have HN:=hid hn
 clear h ht hn
 generalize hI:itemT s t = R
 have HI:=hid hI
 unfold ItemPost
 rw [hI]
 clear hI
 go_enter Tryz.func40,Tryz.ntmps40
 go_wp2_with fail
 refine (word_any _ pb s t _ H.out).mono ?_;rintro e w0 ⟨rfl,hp0,hb0⟩
 have hx0:isWordT t (ByteArray.mk #[109,101,115,115,97,103,101]).toList = false:=by rw [ByteArray.toList_eq];exact hw0
 rw [hx0] at hp0 ⊢
 go_wp2_with fail
 refine (word_any _ pb s t _ hp0).mono ?_;rintro e w1 ⟨rfl,hp1,hb1⟩
 have hx1:isWordT t (ByteArray.mk #[101,110,117,109]).toList = false:=by rw [ByteArray.toList_eq];exact hw1
 rw [hx1] at hp1 ⊢
 go_wp2_with fail
 refine (word_any _ pb s t _ hp1).mono ?_;rintro e w2 ⟨rfl,hp2,hb2⟩
 have hx2:isWordT t (ByteArray.mk #[115,116,114,101,97,109]).toList = true:=by rw [ByteArray.toList_eq];exact hw2
 rw [hx2] at hp2 ⊢
 have hbk:=((hb0.trans hb1).trans hb2)
 have hsk:=HN.out.same (hbk.block ib hil hne)
 have e0:=hsk.cell (j:=0) (v:=.int .i64 0) rfl
 have ef:∀ j,w2.frozen? ⟨ib,j,none⟩ = false:=fun j=>hsk.frozen j
 simp only [Nat.zero_add] at e0
 have HPK:=hid hp2
 have HSK:=hid hsk
 have HBK:=hid hbk
 clear hsk hbk hp2
 go_wp2_with fail
 have hss:=HSK.out.set 0 (.int .i64 2)
 simp only [Nat.zero_add] at hss
 have a0:=hss.part 0 1 [.int .i64 2] rfl rfl (by omega)
 have a1:=hss.part 1 2 zeroName rfl rfl (by omega)
 have a3:=hss.part 3 1 [.slice none 0 0] rfl rfl (by omega)
 have a4:=hss.part 4 1 [.slice none 0 0] rfl rfl (by omega)
 have a5:=hss.part 5 2 zeroName rfl rfl (by omega)
 have a7:=hss.part 7 2 zeroName rfl rfl (by omega)
 simp only [Nat.zero_add] at a0 a1 a3 a4 a5 a7
 have A0:=hid a0
 have A1:=hid a1
 have A3:=hid a3
 have A4:=hid a4
 have A5:=hid a5
 have A7:=hid a7
 have P0:=hid (HPK.out.store (nb:=ib) hne h1 h2 0 (.int .i64 2))
 have W0:=hid ((Wrote.ofBut (no:=0) (n:=9) HBK.out hil hne).setCell 0 (by omega) (.int .i64 2))
 have hz0:=W0.out.size
 clear hss a0 a1 a3 a4 a5 a7 e0 ef
 have HT1:=hid HT.out.next
 refine (name_any _ pb s (nextP s t) ib 1 _ _ _ P0.out A1.out hne h1 h2).mono ?_;rintro e w5 ⟨rfl,hp5,hs5,hw5⟩
 have W5:=hid (W0.out.trans (hw5.wide (fo:=0) (m:=9) (by omega) (by omega)))
 have B0:=hid (hw5.seg _ _ _ (Or.inl (by simp)) A0.out)
 have B3:=hid (hw5.seg _ _ _ (Or.inr (by simp)) A3.out)
 have B4:=hid (hw5.seg _ _ _ (Or.inr (by simp)) A4.out)
 have B5:=hid (hw5.seg _ _ _ (Or.inr (by simp)) A5.out)
 have B7:=hid (hw5.seg _ _ _ (Or.inr (by simp)) A7.out)
 have S5:=hid hs5
 have P5:=hid hp5
 have hz5:=W5.out.size
 clear hp5 hs5 hw5 A0 A1 A3 A4 A5 A7 P0 W0
 cases hno:nameOk (nextP s t)
 case' false =>
  have HX:=hid (show R.1 = false ∧ R.2.1 = nextP s t by rw [← HI.out];simp [itemT,wMessage,wEnum,wStream,hw0,hw1,hw2,hno])
  rw [hno] at P5
  go_wp2_with fail
  go_ret
  exact ⟨by rw [HX.out.1];rfl,by rw [HX.out.2];exact P5.out,W5.out,fun hh=>(by rw [HX.out.1] at hh;cases hh)⟩
 case' true =>
  rw [hno] at P5
  go_wp2_with fail
  refine (base_any _ pb s (nextP s (nextP s t)) ib 5 _ _ _ P5.out B5.out hne h1 h2).mono ?_;rintro e w6 ⟨rfl,hp6,hs6,hw6⟩
  have HX:=hid (show R = (baseOk (nextP s (nextP s t)),afterT (baseOk (nextP s (nextP s t))) s (nextP s (nextP s t)),⟨2,nextP s t,[],[],nameCells (nextP s (nextP s t)),zeroName⟩) by rw [← HI.out];simp [itemT,wMessage,wEnum,wStream,hw0,hw1,hw2,hno])
  have W6:=hid (W5.out.trans (hw6.wide (fo:=0) (m:=9) (by omega) (by omega)))
  have C0:=hid (hw6.seg _ _ _ (Or.inl (by simp)) B0.out)
  have C1:=hid (hw6.seg _ _ _ (Or.inl (by simp [nameCells])) S5.out)
  have C3:=hid (hw6.seg _ _ _ (Or.inl (by simp)) B3.out)
  have C4:=hid (hw6.seg _ _ _ (Or.inl (by simp)) B4.out)
  have C7:=hid (hw6.seg _ _ _ (Or.inr (by simp)) B7.out)
  have S6:=hid hs6
  have P6:=hid hp6
  clear hp6 hs6 hw6
  go_wp2_with fail
  go_ret
  exact ⟨by rw [HX.out];rfl,by rw [HX.out];exact P6.out,W6.out,fun _=>⟨⟨⟨2,nextP s t,[],[],nameCells (nextP s (nextP s t)),zeroName⟩,.slice none 0 0,.slice none 0 0⟩,by rw [HX.out],(((((C0.out.join C1.out).join C3.out).join C4.out).join S6.out).join C7.out),⟨World.ownsRow_nil _ _ _ _,World.ownsRow_nil _ _ _ _⟩⟩⟩
set_option maxRecDepth 100000 in
set_option maxHeartbeats 4000000 in
theorem item_call (w:World) (pb:Nat) (s:ByteArray) (t:PTok) (ib:Nat) (h:Ps w pb s t) (ht:Tk s t) (hn:Seg w ib 98 0 zeroItem) (hne:ib ≠ pb) (h1:ib ≠ 1) (h2:ib ≠ 2) (hw0:isWordT t [109,101,115,115,97,103,101] = false) (hw1:isWordT t [101,110,117,109] = false) (hw2:isWordT t [115,116,114,101,97,109] = false) (hw3:isWordT t [99,97,108,108] = true) :
  Calls Tryz.prog 40 #[.pointer (some ⟨pb,0,none⟩),.pointer (some ⟨ib,0,none⟩)] w (ItemPost w pb s t ib):=by
 have hil:=hn.lt
 have H:=hid h
 have HT:=hid ht
 have HN:=hid hn
 clear h ht hn
 generalize hI:itemT s t = R
 have HI:=hid hI
 unfold ItemPost
 rw [hI]
 clear hI
 go_enter Tryz.func40,Tryz.ntmps40
 go_wp2_with fail
 refine (word_any _ pb s t _ H.out).mono ?_;rintro e w0 ⟨rfl,hp0,hb0⟩
 have hx0:isWordT t (ByteArray.mk #[109,101,115,115,97,103,101]).toList = false:=by rw [ByteArray.toList_eq];exact hw0
 rw [hx0] at hp0 ⊢
 go_wp2_with fail
 refine (word_any _ pb s t _ hp0).mono ?_;rintro e w1 ⟨rfl,hp1,hb1⟩
 have hx1:isWordT t (ByteArray.mk #[101,110,117,109]).toList = false:=by rw [ByteArray.toList_eq];exact hw1
 rw [hx1] at hp1 ⊢
 go_wp2_with fail
 refine (word_any _ pb s t _ hp1).mono ?_;rintro e w2 ⟨rfl,hp2,hb2⟩
 have hx2:isWordT t (ByteArray.mk #[115,116,114,101,97,109]).toList = false:=by rw [ByteArray.toList_eq];exact hw2
 rw [hx2] at hp2 ⊢
 go_wp2_with fail
 refine (word_any _ pb s t _ hp2).mono ?_;rintro e w3 ⟨rfl,hp3,hb3⟩
 have hx3:isWordT t (ByteArray.mk #[99,97,108,108]).toList = true:=by rw [ByteArray.toList_eq];exact hw3
 rw [hx3] at hp3 ⊢
 have hbk:=(((hb0.trans hb1).trans hb2).trans hb3)
 have hsk:=HN.out.same (hbk.block ib hil hne)
 have e0:=hsk.cell (j:=0) (v:=.int .i64 0) rfl
 have ef:∀ j,w3.frozen? ⟨ib,j,none⟩ = false:=fun j=>hsk.frozen j
 simp only [Nat.zero_add] at e0
 have HPK:=hid hp3
 have HSK:=hid hsk
 have HBK:=hid hbk
 clear hsk hbk hp3
 go_wp2_with fail
 have hss:=HSK.out.set 0 (.int .i64 3)
 simp only [Nat.zero_add] at hss
 have a0:=hss.part 0 1 [.int .i64 3] rfl rfl (by omega)
 have a1:=hss.part 1 2 zeroName rfl rfl (by omega)
 have a3:=hss.part 3 1 [.slice none 0 0] rfl rfl (by omega)
 have a4:=hss.part 4 1 [.slice none 0 0] rfl rfl (by omega)
 have a5:=hss.part 5 2 zeroName rfl rfl (by omega)
 have a7:=hss.part 7 2 zeroName rfl rfl (by omega)
 simp only [Nat.zero_add] at a0 a1 a3 a4 a5 a7
 have A0:=hid a0
 have A1:=hid a1
 have A3:=hid a3
 have A4:=hid a4
 have A5:=hid a5
 have A7:=hid a7
 have P0:=hid (HPK.out.store (nb:=ib) hne h1 h2 0 (.int .i64 3))
 have W0:=hid ((Wrote.ofBut (no:=0) (n:=9) HBK.out hil hne).setCell 0 (by omega) (.int .i64 3))
 have hz0:=W0.out.size
 clear hss a0 a1 a3 a4 a5 a7 e0 ef
 have HT1:=hid HT.out.next
 refine (name_any _ pb s (nextP s t) ib 1 _ _ _ P0.out A1.out hne h1 h2).mono ?_;rintro e w5 ⟨rfl,hp5,hs5,hw5⟩
 have W5:=hid (W0.out.trans (hw5.wide (fo:=0) (m:=9) (by omega) (by omega)))
 have B0:=hid (hw5.seg _ _ _ (Or.inl (by simp)) A0.out)
 have B3:=hid (hw5.seg _ _ _ (Or.inr (by simp)) A3.out)
 have B4:=hid (hw5.seg _ _ _ (Or.inr (by simp)) A4.out)
 have B5:=hid (hw5.seg _ _ _ (Or.inr (by simp)) A5.out)
 have B7:=hid (hw5.seg _ _ _ (Or.inr (by simp)) A7.out)
 have S5:=hid hs5
 have P5:=hid hp5
 have hz5:=W5.out.size
 clear hp5 hs5 hw5 A0 A1 A3 A4 A5 A7 P0 W0
 cases hno:nameOk (nextP s t)
 case' false =>
  have HX:=hid (show R.1 = false ∧ R.2.1 = nextP s t by rw [← HI.out];simp [itemT,wMessage,wEnum,wStream,wCall,hw0,hw1,hw2,hw3,hno])
  rw [hno] at P5
  go_wp2_with fail
  go_ret
  exact ⟨by rw [HX.out.1];rfl,by rw [HX.out.2];exact P5.out,W5.out,fun hh=>(by rw [HX.out.1] at hh;cases hh)⟩
 case' true =>
  rw [hno] at P5
  go_wp2_with fail
  refine (base_any _ pb s (nextP s (nextP s t)) ib 5 _ _ _ P5.out B5.out hne h1 h2).mono ?_;rintro e w6 ⟨rfl,hp6,hs6,hw6⟩
  have W6:=hid (W5.out.trans (hw6.wide (fo:=0) (m:=9) (by omega) (by omega)))
  have C0:=hid (hw6.seg _ _ _ (Or.inl (by simp)) B0.out)
  have C1:=hid (hw6.seg _ _ _ (Or.inl (by simp [nameCells])) S5.out)
  have C3:=hid (hw6.seg _ _ _ (Or.inl (by simp)) B3.out)
  have C4:=hid (hw6.seg _ _ _ (Or.inl (by simp)) B4.out)
  have C7:=hid (hw6.seg _ _ _ (Or.inr (by simp)) B7.out)
  have S6:=hid hs6
  have P6:=hid hp6
  clear hp6 hs6 hw6 B0 B3 B4 B5 B7 S5 P5
  cases hbo:baseOk (nextP s (nextP s t))
  case' false =>
   have HX:=hid (show R.1 = false ∧ R.2.1 = nextP s (nextP s t) by rw [← HI.out];simp [itemT,wMessage,wEnum,wStream,wCall,hw0,hw1,hw2,hw3,hno,hbo])
   rw [hbo] at P6
   go_wp2_with fail
   go_ret
   exact ⟨by rw [HX.out.1];rfl,by rw [HX.out.2];exact P6.out,W6.out,fun hh=>(by rw [HX.out.1] at hh;cases hh)⟩
  case' true =>
   rw [hbo] at P6
   have HX:=hid (show R = (baseOk (nextP s (nextP s (nextP s t))),afterT (baseOk (nextP s (nextP s (nextP s t)))) s (nextP s (nextP s (nextP s t))),⟨3,nextP s t,[],[],nameCells (nextP s (nextP s t)),nameCells (nextP s (nextP s (nextP s t)))⟩) by rw [← HI.out];simp [itemT,wMessage,wEnum,wStream,wCall,hw0,hw1,hw2,hw3,hno,hbo])
   go_wp2_with fail
   refine (base_any _ pb s (nextP s (nextP s (nextP s t))) ib 7 _ _ _ P6.out C7.out hne h1 h2).mono ?_;rintro e w7 ⟨rfl,hp7,hs7,hw7⟩
   have W7:=hid (W6.out.trans (hw7.wide (fo:=0) (m:=9) (by omega) (by omega)))
   have D0:=hid (hw7.seg _ _ _ (Or.inl (by simp)) C0.out)
   have D1:=hid (hw7.seg _ _ _ (Or.inl (by simp [nameCells])) C1.out)
   have D3:=hid (hw7.seg _ _ _ (Or.inl (by simp)) C3.out)
   have D4:=hid (hw7.seg _ _ _ (Or.inl (by simp)) C4.out)
   have D5:=hid (hw7.seg _ _ _ (Or.inl (by simp [nameCells])) S6.out)
   have S7:=hid hs7
   have P7:=hid hp7
   clear hp7 hs7 hw7
   go_wp2_with fail
   go_ret
   exact ⟨by rw [HX.out];rfl,by rw [HX.out];exact P7.out,W7.out,fun _=>⟨⟨⟨3,nextP s t,[],[],nameCells (nextP s (nextP s t)),nameCells (nextP s (nextP s (nextP s t)))⟩,.slice none 0 0,.slice none 0 0⟩,by rw [HX.out],(((((D0.out.join D1.out).join D3.out).join D4.out).join D5.out).join S7.out),⟨World.ownsRow_nil _ _ _ _,World.ownsRow_nil _ _ _ _⟩⟩⟩
set_option maxRecDepth 100000 in
set_option maxHeartbeats 4000000 in
theorem item_none (w:World) (pb:Nat) (s:ByteArray) (t:PTok) (ib:Nat) (h:Ps w pb s t) (ht:Tk s t) (hn:Seg w ib 98 0 zeroItem) (hne:ib ≠ pb) (_h1:ib ≠ 1) (_h2:ib ≠ 2) (hw0:isWordT t [109,101,115,115,97,103,101] = false) (hw1:isWordT t [101,110,117,109] = false) (hw2:isWordT t [115,116,114,101,97,109] = false) (hw3:isWordT t [99,97,108,108] = false) :
  Calls Tryz.prog 40 #[.pointer (some ⟨pb,0,none⟩),.pointer (some ⟨ib,0,none⟩)] w (ItemPost w pb s t ib):=by
 have hil:=hn.lt
 have H:=hid h
 have HT:=hid ht
 have HN:=hid hn
 clear h ht hn
 generalize hI:itemT s t = R
 have HI:=hid hI
 unfold ItemPost
 rw [hI]
 clear hI
 have HX:=hid (show R.1 = false ∧ R.2.1 = t by rw [← HI.out];simp [itemT,wMessage,wEnum,wStream,wCall,hw0,hw1,hw2,hw3])
 go_enter Tryz.func40,Tryz.ntmps40
 go_wp2_with fail
 refine (word_any _ pb s t _ H.out).mono ?_;rintro e w0 ⟨rfl,hp0,hb0⟩
 have hx0:isWordT t (ByteArray.mk #[109,101,115,115,97,103,101]).toList = false:=by rw [ByteArray.toList_eq];exact hw0
 rw [hx0] at hp0 ⊢
 go_wp2_with fail
 refine (word_any _ pb s t _ hp0).mono ?_;rintro e w1 ⟨rfl,hp1,hb1⟩
 have hx1:isWordT t (ByteArray.mk #[101,110,117,109]).toList = false:=by rw [ByteArray.toList_eq];exact hw1
 rw [hx1] at hp1 ⊢
 go_wp2_with fail
 refine (word_any _ pb s t _ hp1).mono ?_;rintro e w2 ⟨rfl,hp2,hb2⟩
 have hx2:isWordT t (ByteArray.mk #[115,116,114,101,97,109]).toList = false:=by rw [ByteArray.toList_eq];exact hw2
 rw [hx2] at hp2 ⊢
 go_wp2_with fail
 refine (word_any _ pb s t _ hp2).mono ?_;rintro e w3 ⟨rfl,hp3,hb3⟩
 have hx3:isWordT t (ByteArray.mk #[99,97,108,108]).toList = false:=by rw [ByteArray.toList_eq];exact hw3
 rw [hx3] at hp3 ⊢
 have hbk:=((hb0.trans hb1).trans hb2).trans hb3
 go_wp2_with fail
 go_ret
 exact ⟨by rw [HX.out.1];rfl,by rw [HX.out.2];exact hp3,Wrote.ofBut hbk hil hne,fun hh=>(by rw [HX.out.1] at hh;cases hh)⟩
theorem item_any (w:World) (pb:Nat) (s:ByteArray) (t:PTok) (ib:Nat) (h:Ps w pb s t) (ht:Tk s t) (hn:Seg w ib 98 0 zeroItem) (hne:ib ≠ pb) (h1:ib ≠ 1) (h2:ib ≠ 2) :
  Calls Tryz.prog 40 #[.pointer (some ⟨pb,0,none⟩),.pointer (some ⟨ib,0,none⟩)] w (ItemPost w pb s t ib):=by
 cases e0:isWordT t [109,101,115,115,97,103,101]
 ·cases e1:isWordT t [101,110,117,109]
  ·cases e2:isWordT t [115,116,114,101,97,109]
   ·cases e3:isWordT t [99,97,108,108]
    ·exact item_none w pb s t ib h ht hn hne h1 h2 e0 e1 e2 e3
    ·exact item_call w pb s t ib h ht hn hne h1 h2 e0 e1 e2 e3
   ·exact item_stream w pb s t ib h ht hn hne h1 h2 e0 e1 e2
  ·exact item_enum w pb s t ib h ht hn hne h1 h2 e0 e1
 ·exact item_message w pb s t ib h ht hn hne h1 h2 e0
end Go.Proofs.YtdgcamlmjmnpeaaGreatDoor
