/- The parser of package schemas: isWord, IsBuiltin, name, base, number, shape. -/
import Derived.Test.YtdgcamlmjmnpeaaGreatDoorMProgScan
import Derived.Test.YtdgcamlmjmnpeaaGreatDoorMKept
namespace Go.Proofs.YtdgcamlmjmnpeaaGreatDoor
open Go.RowKit
set_option maxHeartbeats 400000 in
theorem isBuiltin_any (s:ByteArray) (w:World) :
  Calls Tryz.prog 47 #[.string s] w fun e w'=>e = .returned (.bool (builtB s.toList)) ∧ w' = w:=by
 generalize hB:builtB s.toList = b
 have HB:=hid hB
 clear hB
 cases h1:(s.toList == [105,110,116])
 ·cases h2:(s.toList == [98,111,111,108])
  ·go_enter Tryz.func47,Tryz.ntmps47
   go_wp2
   go_ret
   exact ⟨ret_bool (by rw [← HB.out];simp [builtB,h1,h2]),rfl⟩
  ·go_enter Tryz.func47,Tryz.ntmps47
   go_wp2
   go_ret
   exact ⟨ret_bool (by rw [← HB.out];simp [builtB,h2]),rfl⟩
 ·go_enter Tryz.func47,Tryz.ntmps47
  go_wp2
  go_ret
  exact ⟨ret_bool (by rw [← HB.out];simp [builtB,h1]),rfl⟩
theorem wordB_eq (l:List UInt8):wordB l = ((l == wMessage) || (l == wEnum) || (l == wStream) || (l == wCall) || (l == wOpt) || (l == wList) || builtB l):=by
 unfold wordB words builtB wMessage wEnum wStream wCall wOpt wList
 simp only [List.any_cons,List.any_nil,Bool.or_false]
 rw [BEq.comm (a:=[109,101,115,115,97,103,101]),BEq.comm (a:=[101,110,117,109]),BEq.comm (a:=[115,116,114,101,97,109]),BEq.comm (a:=[99,97,108,108]),BEq.comm (a:=[111,112,116]),BEq.comm (a:=[108,105,115,116]),BEq.comm (a:=[105,110,116]),BEq.comm (a:=[98,111,111,108]),BEq.comm (a:=[116,101,120,116])]
 simp only [Bool.or_assoc]
set_option maxHeartbeats 1000000 in
theorem isWord_any (s:ByteArray) (w:World) :
  Calls Tryz.prog 132 #[.string s] w fun e w'=>e = .returned (.bool (wordB s.toList)) ∧ w' = w:=by
 have hW:=wordB_eq s.toList
 generalize hB:wordB s.toList = b at *
 have HW:=hid hW
 clear hW hB
 simp only [wMessage,wEnum,wStream,wCall,wOpt,wList] at HW
 cases h1:(s.toList == [109,101,115,115,97,103,101])
 case' false =>
  cases h2:(s.toList == [101,110,117,109])
  case' false =>
   cases h3:(s.toList == [115,116,114,101,97,109])
   case' false =>
    cases h4:(s.toList == [99,97,108,108])
    case' false =>
     cases h5:(s.toList == [111,112,116])
     case' false =>
      cases h6:(s.toList == [108,105,115,116])
      case false =>
       go_enter Tryz.func132,Tryz.ntmps132
       go_wp2_with fail
       refine (isBuiltin_any _ _).mono ?_;rintro e w1 ⟨rfl,rfl⟩
       go_wp2_with fail
       go_ret
       exact ⟨ret_bool (by rw [HW.out,h1,h2,h3,h4,h5,h6];rfl),rfl⟩
 all_goals
  go_enter Tryz.func132,Tryz.ntmps132
  go_wp2_with fail
  go_ret
  exact ⟨ret_bool (by rw [HW.out];simp [*]),rfl⟩
structure Wrote (w w':World) (pb nb no n:Nat):Prop where
 os:w'.os = w.os
 tape:w'.tape = w.tape
 output:w'.output = w.output
 size:w.heap.size ≤ w'.heap.size
 block:∀ k,k < w.heap.size → k ≠ pb → k ≠ nb → w'.heap[k]? = w.heap[k]?
 seg:∀ T p xs,(p + xs.length ≤ no ∨ no + n ≤ p) → Seg w nb T p xs → Seg w' nb T p xs
 len:∀ T cur,w.heap[nb]? = some (.cells cur T (0,0)) → ∃ cur',w'.heap[nb]? = some (.cells cur' T (0,0)) ∧ cur'.size = cur.size
theorem Wrote.ofBut {w w':World} {pb nb no n:Nat} (h:But pb w w') (hl:nb < w.heap.size) (hne:nb ≠ pb):Wrote w w' pb nb no n :=
 ⟨h.os,h.tape,h.output,h.size,fun k hk hp _=>h.block k hk hp,fun _ _ _ _ hs=>hs.same (h.block nb hl hne),fun _ cur hc=>⟨cur,by rw [h.block nb hl hne];exact hc,rfl⟩⟩
theorem Wrote.setCell {w w':World} {pb nb no n:Nat} (h:Wrote w w' pb nb no n) (j:Nat) (hj:j < n) (v:Value):Wrote w (w'.setCell ⟨nb,no + j,none⟩ v) pb nb no n :=
 ⟨h.os,h.tape,h.output,by simpa [World.setCell] using h.size,fun k hk hp hn=>(Below.heap_setCell _ _ _ _ hn).trans (h.block k hk hp hn),fun T p xs hp hs=>(h.seg T p xs hp hs).set_other _ _ (by omega),fun T cur hc=>by
  obtain ⟨c',h1,h2⟩:=h.len T cur hc
  exact ⟨_,heap_setCell_same w' nb (no + j) c' T v h1,by simpa using h2⟩⟩
theorem Wrote.drew {w w':World} {pb nb no n:Nat} (h:Wrote w w' pb nb no n):Wrote w w'.drew pb nb no n:=⟨h.os,h.tape,h.output,h.size,h.block,h.seg,h.len⟩
theorem Wrote.but {w w' w'':World} {pb nb no n:Nat} (h:Wrote w w' pb nb no n) (hb:But pb w' w'') (hl:nb < w.heap.size) (hne:nb ≠ pb):Wrote w w'' pb nb no n :=
 ⟨hb.os.trans h.os,hb.tape.trans h.tape,hb.output.trans h.output,Nat.le_trans h.size hb.size,fun k hk hp hn=>(hb.block k (Nat.lt_of_lt_of_le hk h.size) hp).trans (h.block k hk hp hn),
  fun T p xs hp hs=>(h.seg T p xs hp hs).same (hb.block nb (Nat.lt_of_lt_of_le hl h.size) hne),fun T cur hc=>by
  obtain ⟨c',h1,h2⟩:=h.len T cur hc
  exact ⟨c',by rw [hb.block nb (Nat.lt_of_lt_of_le hl h.size) hne];exact h1,h2⟩⟩
theorem Ps.store {w:World} {pb:Nat} {s:ByteArray} {t:PTok} (h:Ps w pb s t) {nb:Nat} (hne:nb ≠ pb) (h1:nb ≠ 1) (h2:nb ≠ 2) (q:Nat) (v:Value):Ps (w.setCell ⟨nb,q,none⟩ v) pb s t :=
 ⟨h.seg.same (Below.heap_setCell _ _ _ _ (Ne.symm hne)),h.vars.but ((But.refl nb w).setCell q v) h1 h2,h.ne1,h.ne2,h.fit,h.sz⟩
theorem Ps.drew {w:World} {pb:Nat} {s:ByteArray} {t:PTok} (h:Ps w pb s t):Ps w.drew pb s t:=h.below (Below.refl _ _).drew
def nameOk (t:PTok):Bool:=!(wordB t.text.toList) && (t.kind == 2)
def nameCells (t:PTok):List Value:=[.string t.text,.int .i64 t.at_]
set_option maxRecDepth 100000 in
set_option maxHeartbeats 2000000 in
theorem name_any (w:World) (pb:Nat) (s:ByteArray) (t:PTok) (nb no:Nat) (T:TypeId) (d0 d1:Value) (h:Ps w pb s t) (hn:Seg w nb T no [d0,d1]) (hne:nb ≠ pb) (h1:nb ≠ 1) (h2:nb ≠ 2) :
  Calls Tryz.prog 75 #[.pointer (some ⟨pb,0,none⟩),.pointer (some ⟨nb,no,none⟩)] w fun e w'=>e = .returned (.bool (nameOk t)) ∧ Ps w' pb s (afterT (nameOk t) s t) ∧ Seg w' nb T no (nameCells t) ∧ Wrote w w' pb nb no 2:=by
 have c2:=h.seg.cell (j:=2) (v:=.string t.text) rfl
 have c3:=h.seg.cell (j:=3) (v:=.int .i64 t.at_) rfl
 have e0:=hn.cell (j:=0) (v:=d0) rfl
 have e1:=hn.cell (j:=1) (v:=d1) rfl
 have ef:∀ j,w.frozen? ⟨nb,j,none⟩ = false:=fun j=>hn.frozen j
 simp only [Nat.zero_add,Nat.add_zero] at c2 c3 e0
 have q1:(nb = pb) = False:=by simp;omega
 have q2:(pb = nb) = False:=by simp;omega
 have H:=hid h
 have HN:=hid hn
 clear h hn
 generalize hO:nameOk t = b
 have HO:=hid hO
 clear hO
 go_enter Tryz.func75,Tryz.ntmps75
 go_wp2_with fail
 go_region
 all_goals
  go_wp2_with fail
  have hs2:=(HN.out.set 0 (.string t.text)).set 1 (.int .i64 t.at_)
  have hp2:=(H.out.store hne h1 h2 (no + 0) (.string t.text)).store hne h1 h2 (no + 1) (.int .i64 t.at_)
  have hw2:=(((Wrote.ofBut (no:=no) (n:=2) (But.refl pb w) HN.out.lt hne).setCell 0 (by omega) (.string t.text)).setCell 1 (by omega) (.int .i64 t.at_)).drew
  simp only [Nat.add_zero] at hs2 hp2 hw2
  have HS2:=hid (show Seg ((w.setCell ⟨nb,no,none⟩ (.string t.text)).setCell ⟨nb,no + 1,none⟩ (.int .i64 t.at_)).drew nb T no (nameCells t) from hs2)
  have HP2:=hid hp2.drew
  have HW2:=hid hw2
  clear hs2 hp2 hw2
  refine (isWord_any _ _).mono ?_;rintro e w1 ⟨rfl,rfl⟩
  cases hwd:wordB t.text.toList
  case' true =>
   have HB:=hid (show b = false by rw [← HO.out];simp [nameOk,hwd])
   go_wp2_with fail
   go_ret
   exact ⟨ret_bool HB.out.symm,by rw [HB.out];exact HP2.out,HS2.out,HW2.out⟩
  case' false =>
   have HB:=hid (show b = (t.kind == 2) by rw [← HO.out];simp [nameOk,hwd])
   go_wp2_with fail
   refine (mark_any _ pb s t 2 HP2.out).mono ?_;rintro e w3 ⟨rfl,hp3,hb3⟩
   rw [← HB.out] at hp3 ⊢
   go_wp2_with fail
   go_ret
   exact ⟨rfl,hp3,HS2.out.same (hb3.block nb (Nat.lt_of_lt_of_le HN.out.lt HW2.out.size) hne),HW2.out.but hb3 HN.out.lt hne⟩
def baseOk (t:PTok):Bool:=(!(wordB t.text.toList) || builtB t.text.toList) && (t.kind == 2)
set_option maxRecDepth 100000 in
set_option maxHeartbeats 2000000 in
theorem base_any (w:World) (pb:Nat) (s:ByteArray) (t:PTok) (nb no:Nat) (T:TypeId) (d0 d1:Value) (h:Ps w pb s t) (hn:Seg w nb T no [d0,d1]) (hne:nb ≠ pb) (h1:nb ≠ 1) (h2:nb ≠ 2) :
  Calls Tryz.prog 79 #[.pointer (some ⟨pb,0,none⟩),.pointer (some ⟨nb,no,none⟩)] w fun e w'=>e = .returned (.bool (baseOk t)) ∧ Ps w' pb s (afterT (baseOk t) s t) ∧ Seg w' nb T no (nameCells t) ∧ Wrote w w' pb nb no 2:=by
 have c2:=h.seg.cell (j:=2) (v:=.string t.text) rfl
 have c3:=h.seg.cell (j:=3) (v:=.int .i64 t.at_) rfl
 have e0:=hn.cell (j:=0) (v:=d0) rfl
 have e1:=hn.cell (j:=1) (v:=d1) rfl
 have ef:∀ j,w.frozen? ⟨nb,j,none⟩ = false:=fun j=>hn.frozen j
 simp only [Nat.zero_add,Nat.add_zero] at c2 c3 e0
 have q1:(nb = pb) = False:=by simp;omega
 have q2:(pb = nb) = False:=by simp;omega
 have H:=hid h
 have HN:=hid hn
 clear h hn
 generalize hO:baseOk t = b
 have HO:=hid hO
 clear hO
 go_enter Tryz.func79,Tryz.ntmps79
 go_wp2_with fail
 go_region
 all_goals
  go_wp2_with fail
  have hs2:=(HN.out.set 0 (.string t.text)).set 1 (.int .i64 t.at_)
  have hp2:=(H.out.store hne h1 h2 (no + 0) (.string t.text)).store hne h1 h2 (no + 1) (.int .i64 t.at_)
  have hw2:=(((Wrote.ofBut (no:=no) (n:=2) (But.refl pb w) HN.out.lt hne).setCell 0 (by omega) (.string t.text)).setCell 1 (by omega) (.int .i64 t.at_)).drew
  simp only [Nat.add_zero] at hs2 hp2 hw2
  have HS2:=hid (show Seg ((w.setCell ⟨nb,no,none⟩ (.string t.text)).setCell ⟨nb,no + 1,none⟩ (.int .i64 t.at_)).drew nb T no (nameCells t) from hs2)
  have HP2:=hid hp2.drew
  have HW2:=hid hw2
  clear hs2 hp2 hw2
  refine (isWord_any _ _).mono ?_;rintro e w1 ⟨rfl,rfl⟩
  cases hwd:wordB t.text.toList
  case' true =>
   go_wp2_with fail
   refine (isBuiltin_any _ _).mono ?_;rintro e w2 ⟨rfl,rfl⟩
   cases hbt:builtB t.text.toList
   case' false =>
    have HB:=hid (show b = false by rw [← HO.out];simp [baseOk,hwd,hbt])
    go_wp2_with fail
    go_ret
    exact ⟨ret_bool HB.out.symm,by rw [HB.out];exact HP2.out,HS2.out,HW2.out⟩
   case' true =>
    have HB:=hid (show b = (t.kind == 2) by rw [← HO.out];simp [baseOk,hbt])
    go_wp2_with fail
    refine (mark_any _ pb s t 2 HP2.out).mono ?_;rintro e w3 ⟨rfl,hp3,hb3⟩
    rw [← HB.out] at hp3 ⊢
    go_wp2_with fail
    go_ret
    exact ⟨rfl,hp3,HS2.out.same (hb3.block nb (Nat.lt_of_lt_of_le HN.out.lt HW2.out.size) hne),HW2.out.but hb3 HN.out.lt hne⟩
  case' false =>
   have HB:=hid (show b = (t.kind == 2) by rw [← HO.out];simp [baseOk,hwd])
   go_wp2_with fail
   refine (mark_any _ pb s t 2 HP2.out).mono ?_;rintro e w3 ⟨rfl,hp3,hb3⟩
   rw [← HB.out] at hp3 ⊢
   go_wp2_with fail
   go_ret
   exact ⟨rfl,hp3,HS2.out.same (hb3.block nb (Nat.lt_of_lt_of_le HN.out.lt HW2.out.size) hne),HW2.out.but hb3 HN.out.lt hne⟩
end Go.Proofs.YtdgcamlmjmnpeaaGreatDoor
namespace Go.Proofs.YtdgcamlmjmnpeaaGreatDoor
open Go.RowKit
theorem dec2_head:∀ k,k < 100 → (dec2 k).head? ≠ some 43 ∧ (dec2 k).head? ≠ some 45:=by decide
set_option maxRecDepth 100000 in
set_option maxHeartbeats 1000000 in
theorem numberOf_gen (run:ByteArray) (w:World) (hv:Vars w) (hs:run.size ≤ 400) :
  Calls Tryz.prog 169 #[.string run] w fun e w'=>∃ (n:Int) (b:Bool),e = .returned (.tuple #[.int .i64 n,.bool b]) ∧ (numB run.toList = true → n = numI run.toList) ∧ Below w.heap.size w w':=by
 rcases hA:Lib.atoiAll run.data.toList with v | _ | _
 ·have h0:0 < run.size:=by
   rcases Nat.eq_zero_or_pos run.size with h | h
   ·have:run.data.toList = []:=List.eq_nil_of_length_eq_zero h
    rw [this] at hA;simp [Lib.atoiAll] at hA
   ·exact h
  by_cases hc:(run[0]'h0).toNat ≠ 43 ∧ (run[0]'h0).toNat ≠ 45
  ·refine (numberOf_any run w hv h0 hs hc).mono ?_
   rintro e w1 ⟨n,rfl,hn,hb⟩
   exact ⟨n,_,rfl,hn,hb⟩
  ·have HN:=hid (show numB run.toList = false by
    cases hn:numB run.toList with
    | false=>rfl
    | true =>
     obtain ⟨k,h1,h2,h3⟩:=numB_cases hn
     obtain ⟨r,hr⟩:=first_of run h0
     have hd:=dec2_head k (by omega)
     rw [← h3,hr] at hd
     simp at hd
     exfalso;apply hc
     exact ⟨fun e=>hd.1 (UInt8.toNat_inj.1 (by simpa using e)),fun e=>hd.2 (UInt8.toNat_inj.1 (by simpa using e))⟩)
   clear hc
   go_enter Tryz.func169,Tryz.ntmps169
   go_wp2_with fail
   refine (Tryz.strconv_Atoi_ok run (by omega) v hA _).mono ?_;rintro e w1 ⟨rfl,hw1⟩
   have hb1:Below w.heap.size w w1:=by
    rcases hw1 with rfl | ⟨bt,rfl⟩
    ·exact Below.refl _ _
    ·exact Joins.below_bytesWorld _ _ _ _ (Nat.le_refl _)
   clear hw1 hA
   go_wp2_with fail
   all_goals
    go_ret2
    exact ⟨_,_,rfl,fun hh=>(by rw [HN.out] at hh;cases hh),hb1⟩
 ·have HN:=hid (num_bad (l:=run.toList) (fun v hh=>by rw [ByteArray.toList_eq,hA] at hh;cases hh))
  obtain ⟨te,pe,hsx⟩:=hv.sx
  go_enter Tryz.func169,Tryz.ntmps169
  go_wp2_with fail
  refine (Tryz.strconv_Atoi_no run (by omega) ⟨fun v hh => (by rw [hA] at hh; cases hh),fun hh => (by rw [hA] at hh; cases hh)⟩ _ _ hsx (Or.inr ⟨te,pe,rfl⟩)).mono ?_;rintro e w1 ⟨N,rfl,_,_,hb1⟩
  clear hA
  go_wp2_with fail
  go_ret2
  exact ⟨_,_,rfl,fun hh=>(by rw [HN.out] at hh;cases hh),hb1⟩
 ·have HN:=hid (num_bad (l:=run.toList) (fun v hh=>by rw [ByteArray.toList_eq,hA] at hh;cases hh))
  obtain ⟨te,pe,hrg⟩:=hv.rg
  go_enter Tryz.func169,Tryz.ntmps169
  go_wp2_with fail
  refine (Tryz.strconv_Atoi_range run (by omega) hA _ _ hrg (Or.inr ⟨te,pe,rfl⟩)).mono ?_;rintro e w1 ⟨N,rfl,_,_,hb1⟩
  clear hA
  go_wp2_with fail
  go_ret2
  exact ⟨_,_,rfl,fun hh=>(by rw [HN.out] at hh;cases hh),hb1⟩
set_option maxRecDepth 100000 in
set_option maxHeartbeats 2000000 in
theorem number_any (w:World) (pb:Nat) (s:ByteArray) (t:PTok) (nb no:Nat) (T:TypeId) (d0 d1:Value) (h:Ps w pb s t) (hn:Seg w nb T no [d0,d1]) (hne:nb ≠ pb) (h1:nb ≠ 1) (h2:nb ≠ 2) :
  Calls Tryz.prog 133 #[.pointer (some ⟨pb,0,none⟩),.pointer (some ⟨nb,no,none⟩)] w fun e w'=>∃ n:Int,e = .returned (.bool (t.kind == 3)) ∧ (numB t.text.toList = true → n = numI t.text.toList) ∧ Ps w' pb s (afterT (t.kind == 3) s t) ∧ Seg w' nb T no [.int .i64 n,.int .i64 t.at_] ∧ Wrote w w' pb nb no 2:=by
 have c2:=h.seg.cell (j:=2) (v:=.string t.text) rfl
 simp only [Nat.zero_add] at c2
 have hts:t.text.size ≤ 400:=by have:=h.fit;have:=h.sz;omega
 have q1:(nb = pb) = False:=by simp;omega
 have q2:(pb = nb) = False:=by simp;omega
 have H:=hid h
 have HN:=hid hn
 clear h hn
 go_enter Tryz.func133,Tryz.ntmps133
 go_wp2_with fail
 refine (numberOf_gen _ _ H.out.vars hts).mono ?_;rintro e w1 ⟨n,bb,rfl,hnum,hb1⟩
 have hp1:=H.out.below hb1
 have hs1:=HN.out.same (hb1.block nb HN.out.lt)
 have c3:=hp1.seg.cell (j:=3) (v:=.int .i64 t.at_) rfl
 have e0:=hs1.cell (j:=0) (v:=d0) rfl
 have e1:=hs1.cell (j:=1) (v:=d1) rfl
 have ef:∀ j,w1.frozen? ⟨nb,j,none⟩ = false:=fun j=>hs1.frozen j
 simp only [Nat.zero_add,Nat.add_zero] at c3 e0
 have HNM:=hid hnum
 have HP1:=hid hp1
 have HS1:=hid hs1
 clear hnum hp1 hs1 c2
 go_wp2_with fail
 have hs2:=(HS1.out.set 0 (.int .i64 n)).set 1 (.int .i64 t.at_)
 have hp2:=(HP1.out.store hne h1 h2 (no + 0) (.int .i64 n)).store hne h1 h2 (no + 1) (.int .i64 t.at_)
 have hw2:=(((Wrote.ofBut (no:=no) (n:=2) (But.ofBelow (pb:=pb) hb1) HN.out.lt hne).setCell 0 (by omega) (.int .i64 n)).setCell 1 (by omega) (.int .i64 t.at_))
 simp only [Nat.add_zero] at hs2 hp2 hw2
 have HS2:=hid (show Seg ((w1.setCell ⟨nb,no,none⟩ (.int .i64 n)).setCell ⟨nb,no + 1,none⟩ (.int .i64 t.at_)) nb T no [.int .i64 n,.int .i64 t.at_] from hs2)
 have HP2:=hid hp2
 have HW2:=hid hw2
 clear hs2 hp2 hw2
 refine (mark_any _ pb s t 3 HP2.out).mono ?_;rintro e w3 ⟨rfl,hp3,hb3⟩
 go_wp2_with fail
 go_ret
 exact ⟨n,rfl,HNM.out,hp3,HS2.out.same (hb3.block nb (Nat.lt_of_lt_of_le HN.out.lt HW2.out.size) hne),HW2.out.but hb3 HN.out.lt hne⟩
def shapeP (t:PTok):Nat:=if isWordT t wOpt = true then 1 else if isWordT t wList = true then 2 else 0
def shapeOk (t:PTok):Bool:=isWordT t wOpt || isWordT t wList
set_option maxRecDepth 100000 in
set_option maxHeartbeats 2000000 in
theorem shape_any (w:World) (pb:Nat) (s:ByteArray) (t:PTok) (nb no:Nat) (T:TypeId) (d0:Value) (h:Ps w pb s t) (hn:Seg w nb T no [d0]) (hne:nb ≠ pb) (h1:nb ≠ 1) (h2:nb ≠ 2) :
  Calls Tryz.prog 134 #[.pointer (some ⟨pb,0,none⟩),.pointer (some ⟨nb,no,none⟩)] w fun e w'=>e = .returned (.bool true) ∧ Ps w' pb s (afterT (shapeOk t) s t) ∧ Seg w' nb T no [.int .i64 (shapeP t:Nat)] ∧ Wrote w w' pb nb no 1:=by
 have H:=hid h
 have HN:=hid hn
 clear h hn
 generalize hA:afterT (shapeOk t) s t = A
 generalize hS:shapeP t = S
 have HA:=hid hA
 have HS:=hid hS
 clear hA hS
 have fin:∀ (w3:World) (k:Nat),Ps w3 pb s A → But pb w w3 → k = S → Ps (w3.setCell ⟨nb,no,none⟩ (.int .i64 (k:Nat))) pb s A ∧ Seg (w3.setCell ⟨nb,no,none⟩ (.int .i64 (k:Nat))) nb T no [.int .i64 (S:Nat)] ∧ Wrote w (w3.setCell ⟨nb,no,none⟩ (.int .i64 (k:Nat))) pb nb no 1:=by
  intro w3 k hp hb hk
  subst hk
  have hs:=(HN.out.same (hb.block nb HN.out.lt hne)).set 0 (.int .i64 (k:Nat))
  have hw:=(Wrote.ofBut (no:=no) (n:=1) hb HN.out.lt hne).setCell 0 (by omega) (.int .i64 (k:Nat))
  simp only [Nat.add_zero] at hs hw
  exact ⟨hp.store hne h1 h2 no _,hs,hw⟩
 have FIN:=hid fin
 clear fin
 have cf:∀ w3,But pb w w3 → w3.cell? ⟨nb,no,none⟩ = some d0 ∧ ∀ j,w3.frozen? ⟨nb,j,none⟩ = false:=by
  intro w3 hb
  have hs:=HN.out.same (hb.block nb HN.out.lt hne)
  have e0:=hs.cell (j:=0) (v:=d0) rfl
  exact ⟨by simpa using e0,fun j=>hs.frozen j⟩
 have CF:=hid cf
 clear cf
 go_enter Tryz.func134,Tryz.ntmps134
 go_wp2_with fail
 refine (word_any _ pb s t _ H.out).mono ?_;rintro e w1 ⟨rfl,hp1,hb1⟩
 cases ho:isWordT t [111,112,116]
 case' true =>
  have ho':isWordT t (ByteArray.mk #[111,112,116]).toList = true:=by rw [ByteArray.toList_eq];exact ho
  rw [ho'] at hp1 ⊢
  obtain ⟨e0,ef⟩:=CF.out w1 hb1
  have F:=hid (FIN.out w1 1 (by rw [← HA.out];simp only [shapeOk,wOpt,ho,Bool.true_or];exact hp1) hb1 (by rw [← HS.out];simp [shapeP,wOpt,ho]))
  clear hp1
  go_wp2_with fail
  go_ret
  exact ⟨rfl,F.out.1,F.out.2.1,F.out.2.2⟩
 case' false =>
  have ho':isWordT t (ByteArray.mk #[111,112,116]).toList = false:=by rw [ByteArray.toList_eq];exact ho
  rw [ho'] at hp1 ⊢
  go_wp2_with fail
  refine (word_any _ pb s t _ hp1).mono ?_;rintro e w2 ⟨rfl,hp2,hb2⟩
  have hb12:=hb1.trans hb2
  obtain ⟨e0,ef⟩:=CF.out w2 hb12
  cases hl:isWordT t [108,105,115,116]
  case' true =>
   have hl':isWordT t (ByteArray.mk #[108,105,115,116]).toList = true:=by rw [ByteArray.toList_eq];exact hl
   rw [hl'] at hp2 ⊢
   have F:=hid (FIN.out w2 2 (by rw [← HA.out];simp only [shapeOk,wOpt,wList,ho,hl,Bool.or_true];exact hp2) hb12 (by rw [← HS.out];simp [shapeP,wOpt,wList,ho,hl]))
   clear hp1 hp2
   go_wp2_with fail
   go_ret
   exact ⟨rfl,F.out.1,F.out.2.1,F.out.2.2⟩
  case' false =>
   have hl':isWordT t (ByteArray.mk #[108,105,115,116]).toList = false:=by rw [ByteArray.toList_eq];exact hl
   rw [hl'] at hp2 ⊢
   have F:=hid (FIN.out w2 0 (by rw [← HA.out];simp only [shapeOk,wOpt,wList,ho,hl,Bool.or_self];exact hp2) hb12 (by rw [← HS.out];simp [shapeP,wOpt,wList,ho,hl]))
   clear hp1 hp2
   go_wp2_with fail
   go_ret
   exact ⟨rfl,F.out.1,F.out.2.1,F.out.2.2⟩
end Go.Proofs.YtdgcamlmjmnpeaaGreatDoor
