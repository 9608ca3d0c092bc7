/- strings.Builder inside the decoder: copyCheck, WriteByte, WriteString, Write, Len. -/
import Derived.Test.YtdgcamlmjmnpeaaGreatDoorMDecT
import Derived.Lib.Builder
import Derived.Laws.Externs
import Derived.Test.YtdgcamlmjmnpeaaGreatDoorMPEncA
import Derived.Test.YtdgcamlmjmnpeaaGreatDoorMDecA
import Derived.Test.YtdgcamlmjmnpeaaGreatDoorMPEncC
namespace Go.Proofs.YtdgcamlmjmnpeaaGreatDoor
open Go.RowKit
def Dc (w:World) (db:Nat) (lv:Value) (p:Option Addr) (v:Value):Prop:=w.heap[db]? = some (.cells #[lv,.pointer p,v] 68 (0,0))
theorem Dc.seg {w:World} {db:Nat} {lv v:Value} {p:Option Addr} (h:Dc w db lv p v):Seg w db 68 0 [lv,.pointer p,v]:=⟨_,h,by simp,by simp⟩
theorem Dc.lt {w:World} {db:Nat} {lv v:Value} {p:Option Addr} (h:Dc w db lv p v):db < w.heap.size:=h.seg.lt
theorem Dc.same {w w':World} {db:Nat} {lv v:Value} {p:Option Addr} (h:Dc w db lv p v) (hb:w'.heap[db]? = w.heap[db]?):Dc w' db lv p v:=hb.trans h
theorem Dc.setP {w:World} {db:Nat} {lv v:Value} {p:Option Addr} (h:Dc w db lv p v) (q:Option Addr):Dc (w.setCell ⟨db,1,none⟩ (.pointer q)) db lv q v:=heap_setCell_same w db 1 _ _ _ h
theorem Dc.setV {w:World} {db:Nat} {lv v:Value} {p:Option Addr} (h:Dc w db lv p v) (u:Value):Dc (w.setCell ⟨db,2,none⟩ u) db lv p u:=heap_setCell_same w db 2 _ _ _ h
theorem Tryz.infoBld:(Tryz.prog.info? 66).map (·.size) = some 2:=by kernel_rfl
theorem liesBld:liesAt Tryz.prog Tryz.prog.depth 68 (3 / Tryz.prog.cellsOf 68) 1 66 1 = true:=by kernel_rfl
set_option maxRecDepth 100000 in
set_option maxHeartbeats 1000000 in
theorem copyCheck_any (w:World) (db:Nat) (lv v:Value) (p:Option Addr) (hp:p = none ∨ p = some ⟨db,1,none⟩) (h:Dc w db lv p v) :
  Calls Tryz.prog 143 #[.pointer (some ⟨db,1,none⟩)] w fun e w'=>e = .returned (.tuple #[]) ∧ Dc w' db lv (some ⟨db,1,none⟩) v ∧ But db w w':=by
 obtain ⟨j,hj,hjs⟩:=Option.map_eq_some_iff.1 Tryz.infoBld
 have c1:=h.seg.cell (j:=1) rfl
 have f1:=h.seg.frozen 1
 simp only [Nat.zero_add] at c1
 have hsh:w.shape? db = some (68,3):=by unfold World.shape?;rw [h];rfl
 have H:=hid h
 clear h
 rcases hp with rfl | rfl
 ·go_enter Tryz.func143,Tryz.ntmps143
  go_wp2_with fail
  rw [Lib.run_to_unsafe w ⟨db,1,none⟩ Tryz.underlying64 Tryz.underlying267 hj (by rw [hjs];decide) hsh (by show 1 < 3;omega)]
  simp only [Result.andThen]
  rw [Oper.upon_value]
  go_wp2_with fail
  rw [run_callFunc_extern Tryz.func181 (by kernel_rfl) (by kernel_rfl) (by kernel_rfl) (e:=Extern.AbiNoEscape.same) (by kernel_rfl)]
  rw [Lib.run_noEscape]
  simp only [Result.andThen]
  rw [Oper.upon_value]
  go_wp2_with fail
  rw [Lib.run_from_unsafe w ⟨db,1,none⟩ Tryz.underlying267 Tryz.underlying64 hj hsh liesBld]
  simp only [Result.andThen]
  rw [Oper.upon_value]
  go_wp2_with fail
  go_end0
  exact ⟨rfl,H.out.setP _,(But.refl _ _).setCell _ _⟩
 ·go_enter Tryz.func143,Tryz.ntmps143
  go_wp2_with fail
  rw [Lib.run_neq_ptr_same w _ Tryz.underlying64 hj]
  go_wp2_with fail
  go_end0
  exact ⟨rfl,H.out,But.refl _ _⟩
def KeptB (lo:Nat) (w:World) (k:Nat):Prop:=k < lo ∨ ∃ cur T,w.heap[k]? = some (.cells cur T (0,0)) ∧ T ≠ 5
structure DF (db lo:Nat) (w w':World):Prop where
 os:w'.os = w.os
 tape:w'.tape = w.tape
 output:w'.output = w.output
 size:w.heap.size ≤ w'.heap.size
 block:∀ k,k < w.heap.size → k ≠ db → KeptB lo w k → w'.heap[k]? = w.heap[k]?
theorem DF.refl (db lo:Nat) (w:World):DF db lo w w:=⟨rfl,rfl,rfl,Nat.le_refl _,fun _ _ _ _=>rfl⟩
theorem KeptB.on {lo k:Nat} {w w':World} (h:KeptB lo w k) (e:w'.heap[k]? = w.heap[k]?):KeptB lo w' k:=by
 rcases h with h | ⟨cur,T,h1,h2⟩
 ·exact Or.inl h
 ·exact Or.inr ⟨cur,T,e.trans h1,h2⟩
theorem DF.trans {db lo:Nat} {a b c:World} (h:DF db lo a b) (k:DF db lo b c):DF db lo a c :=
 ⟨k.os.trans h.os,k.tape.trans h.tape,k.output.trans h.output,Nat.le_trans h.size k.size,fun q hq hd hu=>by
  have h1:=h.block q hq hd hu
  rw [k.block q (Nat.lt_of_lt_of_le hq h.size) hd (hu.on h1)]
  exact h1⟩
theorem DF.ofBut {db:Nat} {w w':World} (lo:Nat) (h:But db w w'):DF db lo w w':=⟨h.os,h.tape,h.output,h.size,fun k hk hd _=>h.block k hk hd⟩
theorem DF.ofBelow {db:Nat} {w w':World} (lo:Nat) (h:Below w.heap.size w w'):DF db lo w w':=DF.ofBut lo (But.ofBelow h)
theorem DF.ofGrown {db lo:Nat} {w w':World} {v:Value} {L:List UInt8} (hB:Bys w lo v L) (h:w.grownBy w' v.ownBlock):DF db lo w w':=⟨h.os,h.tape,h.output,h.size,fun k hk _ hv=>h.block k hk (fun e=>by
 rcases hv with hv | ⟨cur,T,h1,h2⟩
 ·have:=(hB.lt k e.symm).1;omega
 ·obtain ⟨cur',hc⟩:=own_type hB e.symm
  rw [h1] at hc;simp at hc;exact h2 hc.2)⟩
theorem DF.own {db lo lo':Nat} {w w':World} {e:TypeId} {size n:Nat} {v:Value} {xs:List Value} (h:DF db lo w w') (ho:w.ownsRow lo' e size v n xs) (he:e ≠ 5) (hd:∀ g,v.ownBlock = some g → g ≠ db):w'.ownsRow lo' e size v n xs :=
 own_same ho (fun g hg=>h.block g (ho.lt g hg).2 (hd g hg) (Or.inr (by obtain ⟨cur,hc⟩:=own_type ho hg;exact ⟨cur,e,hc,he⟩)))
structure DcT (w:World) (db lo:Nat) (lv v:Value) (L:List UInt8):Prop where
 d:∃ p,(p = none ∨ p = some ⟨db,1,none⟩) ∧ Dc w db lv p v
 o:Bys w lo v L
theorem DcT.lt {w:World} {db lo:Nat} {lv v:Value} {L:List UInt8} (h:DcT w db lo lv v L):db < w.heap.size:=by obtain ⟨p,_,h⟩:=h.d;exact h.lt
theorem DcT.ne {w:World} {db lo:Nat} {lv v:Value} {L:List UInt8} (h:DcT w db lo lv v L):v.ownBlock ≠ some db:=fun e=>by
 obtain ⟨p,_,hd⟩:=h.d
 exact own_seg_ne h.o hd.seg (by decide) e rfl
theorem DcT.below {w w':World} {db lo:Nat} {lv v:Value} {L:List UInt8} (h:DcT w db lo lv v L) (hb:Below w.heap.size w w'):DcT w' db lo lv v L :=
 ⟨by obtain ⟨p,hp,hd⟩:=h.d;exact ⟨p,hp,hd.same (hb.block db hd.lt)⟩,h.o.same hb⟩
def WPost (w:World) (db lo:Nat) (lv:Value) (L:List UInt8) (w':World):Prop:=∃ v',DcT w' db lo lv v' L ∧ DF db lo w w'
set_option maxRecDepth 100000 in
set_option maxHeartbeats 1000000 in
theorem writeByte_any (w:World) (db lo:Nat) (lv v:Value) (L:List UInt8) (c:UInt8) (z:Int) (hz:z = (c.toNat:Int)) (h:DcT w db lo lv v L) (hl:L.length ≤ 1000000000) (hlo:lo ≤ w.heap.size) :
  Calls Tryz.prog 95 #[.pointer (some ⟨db,1,none⟩),.int .u8 z] w fun e w'=>e = .returned .nilIface ∧ WPost w db lo lv (L ++ [c]) w':=by
 unfold WPost
 obtain ⟨la,lc,hlv⟩:∃ a c,v = .slice a L.length c:=own_slice h.o
 obtain ⟨p,hp,hd⟩:=h.d
 have HO:=hid h.o
 have HD:=hid hd
 subst hlv
 clear h hd
 go_enter Tryz.func95,Tryz.ntmps95
 go_wp2_with fail
 refine (copyCheck_any w db lv _ p hp HD.out).mono ?_;rintro e w1 ⟨rfl,hd1,hb1⟩
 have HD1:=hid hd1
 have HO1:=hid (HO.out.but (show Seg _ _ _ _ _ from HD.out.seg) (by decide) hb1)
 have c2:=hd1.seg.cell (j:=2) rfl
 have f2:=hd1.seg.frozen 2
 simp only [Nat.zero_add] at c2
 have hz1:=hb1.size
 clear hd1
 go_wp2_with (at_builtin;refine wpList_append_by _ rfl _ _ rfl _ L lo rfl (HO1.out.same ((Below.refl _ _).alloc (Nat.le_refl _) _)) _ [c] _ rfl (bys_one _ _ _ (by first | rfl | exact hz)) (by simp;omega) (by simp;omega) ?_)
 intro a5 c5 w5 hb5 hg5
 have HG5:=hid ((Grew.call ((Below.refl _ _).alloc (Nat.le_refl _) _)).trans hg5:Grew w1 w5 (.slice la L.length lc) (.slice a5 (L.length + 1) c5))
 have HB5:=hid hb5
 have hd5:Dc w5 db lv (some ⟨db,1,none⟩) (.slice la L.length lc):=HD1.out.same (HG5.out.g.block db HD1.out.lt (fun e=>own_seg_ne HO1.out HD1.out.seg (by decide) e.symm rfl))
 have c5':=hd5.seg.cell (j:=2) rfl
 have f5:=hd5.seg.frozen 2
 simp only [Nat.zero_add] at c5'
 have HD5:=hid hd5
 clear hb5 hg5 hd5 c2 f2
 go_wp2_with fail
 go_ret
 refine ⟨rfl,.slice a5 (L.length + 1) c5,⟨⟨_,Or.inr rfl,HD5.out.setV _⟩,?_⟩,((DF.ofBut _ hb1).trans (DF.ofGrown HO1.out HG5.out.g)).trans ((DF.ofBut _ ((But.refl _ _).setCell _ _)))⟩
 exact own_same HB5.out (fun g hg=>Below.heap_setCell _ _ _ _ (own_seg_ne HB5.out HD5.out.seg (by decide) hg))
theorem wpList_append_str (w:World) {ops:Array Oper} {rest:List Oper} {o:Oper} {a:Act} {Q:Exit → Act → World → Prop} (hgd:o.guard = none) (sl x:Operand)
  (ho:o.op = .call { callee:=.builtin .append,args:=#[sl,x],argTypes:=#[25,9] }) (v:Value) (L:List UInt8) (lo:Nat) (hs:a.eval sl = v) (hP:Bys w lo v L) (s:ByteArray) (hx:a.eval x = .string s) (hsl:s.size ≤ 1000000000) (hl:L.length ≤ 1000000000) (hlo:lo ≤ w.heap.size) (M:List UInt8) (hM:L ++ s.toList = M)
  (h:∀ a' c' w',Bys w' lo (.slice a' M.length c') M → w.grownBy w' v.ownBlock → wpList Tryz.prog ops Q rest (a.put o.dst (.slice a' M.length c')) w'):wpList Tryz.prog ops Q (o :: rest) a w:=by
 obtain ⟨iI,hiI,hI0,hI1,hI2⟩:=info_parts Tryz.infoByte
 refine Lib.wpList_append_own_string w hgd sl x 25 9 ho lo 5 iI Tryz.underlying25 Tryz.underlying9 hiI hI0 hI1 hI2 v L.length (L.map byteCell) hs hP s hx (by unfold maxLen;omega) (by omega) hlo ?_
 intro v' w' ho' hg' _
 have hz:=size_list s
 rw [strCells_bys,← List.map_append,← hz,← List.length_append,hM] at ho'
 obtain ⟨a',c',rfl⟩:=own_slice ho'
 exact h a' c' w' ho' hg'
set_option maxRecDepth 100000 in
set_option maxHeartbeats 1000000 in
theorem writeString_any (w:World) (db lo:Nat) (lv v:Value) (L:List UInt8) (s:ByteArray) (h:DcT w db lo lv v L) (hl:L.length ≤ 1000000000) (hs:s.size ≤ 1000000000) (hlo:lo ≤ w.heap.size) :
  Calls Tryz.prog 94 #[.pointer (some ⟨db,1,none⟩),.string s] w fun e w'=>e = .returned (.tuple #[.int .i64 s.size,.nilIface]) ∧ WPost w db lo lv (L ++ s.toList) w':=by
 unfold WPost
 obtain ⟨T,HT⟩:∃ T,Hid (L ++ s.toList = T):=⟨_,hid rfl⟩
 rw [HT.out]
 obtain ⟨la,lc,hlv⟩:∃ a c,v = .slice a L.length c:=own_slice h.o
 obtain ⟨p,hp,hd⟩:=h.d
 have HO:=hid h.o
 have HD:=hid hd
 subst hlv
 clear h hd
 go_enter Tryz.func94,Tryz.ntmps94
 go_wp2_with fail
 refine (copyCheck_any w db lv _ p hp HD.out).mono ?_;rintro e w1 ⟨rfl,hd1,hb1⟩
 have HD1:=hid hd1
 have HO1:=hid (HO.out.but (show Seg _ _ _ _ _ from HD.out.seg) (by decide) hb1)
 have c2:=hd1.seg.cell (j:=2) rfl
 have f2:=hd1.seg.frozen 2
 simp only [Nat.zero_add] at c2
 have hz1:=hb1.size
 clear hd1
 go_wp2_with (at_builtin;refine wpList_append_str _ rfl _ _ rfl _ L lo rfl HO1.out s rfl hs hl (by omega) T HT.out ?_)
 intro a5 c5 w5 hb5 hg5
 have HG5:=hid hg5
 have HB5:=hid hb5
 have hd5:Dc w5 db lv (some ⟨db,1,none⟩) (.slice la L.length lc):=HD1.out.same (hg5.block db HD1.out.lt (fun e=>own_seg_ne HO1.out HD1.out.seg (by decide) e.symm rfl))
 have c5':=hd5.seg.cell (j:=2) rfl
 have f5:=hd5.seg.frozen 2
 simp only [Nat.zero_add] at c5'
 have HD5:=hid hd5
 clear hb5 hg5 hd5 c2 f2
 go_wp2_with fail
 go_ret2
 refine ⟨rfl,.slice a5 T.length c5,⟨⟨_,Or.inr rfl,HD5.out.setV _⟩,?_⟩,((DF.ofBut _ hb1).trans (DF.ofGrown HO1.out HG5.out)).trans ((DF.ofBut _ ((But.refl _ _).setCell _ _)))⟩
 exact own_same HB5.out (fun g hg=>Below.heap_setCell _ _ _ _ (own_seg_ne HB5.out HD5.out.seg (by decide) hg))
end Go.Proofs.YtdgcamlmjmnpeaaGreatDoor
namespace Go.Proofs.YtdgcamlmjmnpeaaGreatDoor
open Go.RowKit
set_option maxRecDepth 100000 in
set_option maxHeartbeats 1000000 in
theorem write3_any (w:World) (db lo lo2:Nat) (lv v v2:Value) (L:List UInt8) (c1 c2 c3:UInt8) (h:DcT w db lo lv v L) (h2:Bys w lo2 v2 [c1,c2,c3]) (hn2:v2.ownBlock ≠ some db) (hl:L.length ≤ 1000000000) (hlo:lo ≤ w.heap.size) :
  Calls Tryz.prog 97 #[.pointer (some ⟨db,1,none⟩),v2] w fun e w'=>e = .returned (.tuple #[.int .i64 3,.nilIface]) ∧ WPost w db lo lv (L ++ [c1,c2,c3]) w':=by
 unfold WPost
 obtain ⟨la,lc,hlv⟩:∃ a c,v = .slice a L.length c:=own_slice h.o
 obtain ⟨pa,pc,hpv⟩:∃ a c,v2 = .slice a 3 c:=own_slice h2
 obtain ⟨p,hp,hd⟩:=h.d
 have HO:=hid h.o
 have HD:=hid hd
 subst hlv hpv
 have H2:=hid h2
 have HN2:=hid hn2
 obtain ⟨T,HT⟩:∃ T,Hid ([c1,c2,c3] = T):=⟨_,hid rfl⟩
 rw [HT.out] at H2
 rw [HT.out]
 have hTl:T.length = 3:=by rw [← HT.out];rfl
 have HTL:=hid hTl
 clear h hd h2 hn2 hTl
 go_enter Tryz.func97,Tryz.ntmps97
 go_wp2_with fail
 refine (copyCheck_any w db lv _ p hp HD.out).mono ?_;rintro e w1 ⟨rfl,hd1,hb1⟩
 have HD1:=hid hd1
 have HO1:=hid (HO.out.but (show Seg _ _ _ _ _ from HD.out.seg) (by decide) hb1)
 have H21:=hid (own_same H2.out (fun g hg=>hb1.block g (H2.out.lt g hg).2 (fun e=>HN2.out (by rw [← e];exact hg))):Bys w1 lo2 (.slice pa 3 pc) T)
 have k2:=hd1.seg.cell (j:=2) rfl
 have f2:=hd1.seg.frozen 2
 simp only [Nat.zero_add] at k2
 have hz1:=hb1.size
 clear hd1
 go_wp2_with (at_builtin;refine wpList_append_by _ rfl _ _ rfl _ L lo rfl HO1.out _ T _ rfl H21.out (by have:=HTL.out;omega) (by omega) ?_)
 intro a5 c5 w5 hb5 hg5
 have HG5:=hid hg5
 have HB5:=hid hb5
 have hd5:Dc w5 db lv (some ⟨db,1,none⟩) (.slice la L.length lc):=HD1.out.same (hg5.g.block db HD1.out.lt (fun e=>own_seg_ne HO1.out HD1.out.seg (by decide) e.symm rfl))
 have c5':=hd5.seg.cell (j:=2) rfl
 have f5:=hd5.seg.frozen 2
 simp only [Nat.zero_add] at c5'
 have HD5:=hid hd5
 clear hb5 hg5 hd5 k2 f2
 go_wp2_with fail
 go_ret2
 refine ⟨rfl,.slice a5 (L.length + T.length) c5,⟨⟨_,Or.inr rfl,HD5.out.setV _⟩,?_⟩,((DF.ofBut _ hb1).trans (DF.ofGrown HO1.out HG5.out.g)).trans ((DF.ofBut _ ((But.refl _ _).setCell _ _)))⟩
 exact own_same HB5.out (fun g hg=>Below.heap_setCell _ _ _ _ (own_seg_ne HB5.out HD5.out.seg (by decide) hg))
def DPost (spec:Txt) (w:World) (db lo:Nat) (lv:Value) (L:List UInt8) (K:Nat) (e:Ending) (w':World):Prop :=
 ∃ (ok:Bool) (v':Value) (S:List UInt8),e = .returned (.bool ok) ∧ DcT w' db lo lv v' (L ++ S) ∧ DF db lo w w' ∧ S.length ≤ K ∧ (match ok with | true=>spec = some S | false=>spec = none)
theorem and1 (m:Nat) (h:m < 18446744073709551616):bits BinOp.and IntKind.u64 (m:Int) 1 = ((m % 2:Nat):Int):=by
 have:=bits_and_u64_nat m 1 h (by decide)
 rw [show ((1:Nat):Int) = 1 from rfl] at this
 rw [this,Nat.and_one_is_mod]
theorem xor_i64 (n:Nat) (h:n < 9223372036854775808):bits BinOp.xor IntKind.i64 (-1) (n:Int) = -(n:Int) - 1:=by
 have h2:(BitVec.ofInt 64 (n:Int)).toNat = n:=by
  rw [BitVec.ofInt_natCast,BitVec.toNat_ofNat];exact Nat.mod_eq_of_lt (by omega)
 have h1:(BitVec.ofInt 64 (-1:Int)).toNat = 18446744073709551615:=by decide
 show IntKind.i64.wrap ((BitVec.ofInt 64 (-1:Int) ^^^ BitVec.ofInt 64 (n:Int)).toNat:Int) = _
 rw [BitVec.toNat_xor,h1,h2,not64 n (by omega),IntKind.wrap_i64]
 omega
theorem unzig_odd {m:Nat} (h:m % 2 = 1):unzig m = -((m:Int) / 2) - 1:=by unfold unzig;rw [if_pos h];omega
theorem unzig_even {m:Nat} (h:¬ m % 2 = 1):unzig m = (m:Int) / 2:=by unfold unzig;rw [if_neg h];omega
theorem below_drew_grow (w:World) (n:Nat) (os:Array Obj):Below w.heap.size w (Sort.grow (w.drew.drewN n) os):=by
 have h1:Below w.heap.size w w.drew:=(Below.refl _ _).drew
 have h2:Below w.drew.heap.size w.drew (Sort.grow (w.drew.drewN n) os):=below_grow _ _ _
 exact h1.trans h2
theorem dec_short:∀ (k u:Nat),u < 10 ^ (k + 1) → (Lib.decDigits u).length ≤ k + 1
 | 0,u,h=>by rw [Lib.decDigits,dif_pos (by omega)];simp
 | k + 1,u,h=>by
  rw [Lib.decDigits]
  by_cases h1:u < 10
  ·rw [dif_pos h1];simp
  ·rw [dif_neg h1,List.length_append]
   have:=dec_short k (u / 10) (by rw [Nat.pow_succ] at h;omega)
   simp;omega
theorem itoa_len (v:Int) (h:In64 v):(Lib.itoa v).length ≤ 20:=by
 obtain ⟨h1,h2⟩:=h
 have e:(10:Nat) ^ (18 + 1) = 10000000000000000000:=by decide
 unfold Lib.itoa
 split
 ·have:=dec_short 18 v.natAbs (by rw [e];omega)
  simp;omega
 ·have:=dec_short 18 v.toNat (by rw [e];omega)
  omega
set_option maxRecDepth 100000 in
set_option maxHeartbeats 1000000 in
theorem dinteger_any (w:World) (db lo:Nat) (lv v dv:Value) (L d:List UInt8) (h:DcT w db lo lv v L) (hd:RdC w dv d) (hdl:d.length ≤ 1000) (hE:Env w) (hl:L.length ≤ 900000000) (hlo:lo ≤ w.heap.size) :
  Calls Tryz.prog 55 #[.pointer (some ⟨db,0,none⟩),dv] w (DPost ((wholeV d).map fun m=>Lib.itoa (unzig m)) w db lo lv L 20):=by
 unfold DPost
 obtain ⟨da,dc,hdv⟩:∃ a c,dv = .slice a d.length c:=hd.1.slice
 subst hdv
 have H:=hid h
 have HD:=hid hd
 have HE:=hid hE
 clear h hd hE
 go_enter Tryz.func55,Tryz.ntmps55
 go_wp2_with fail
 refine (wholeNumber_any w _ d HD.out hdl).mono ?_;rintro e w1 ⟨m,ok,rfl,hm,hb1,hw⟩
 have HW:=hid hw
 have H1:=hid (H.out.below hb1)
 have HE1:=hid (HE.out.below hb1)
 have hz1:=hb1.size
 clear hw
 cases ok with
 | false =>
  go_wp2_with fail
  go_ret
  exact ⟨false,v,[],rfl,by simpa using H1.out,DF.ofBelow _ hb1,by simp,by rw [show wholeV d = none from HW.out];rfl⟩
 | true =>
  have ha:=and1 m hm
  have hm2:((m:Int) / 2) = ((m / 2:Nat):Int):=by omega
  by_cases hodd:m % 2 = 1
  ·rw [hodd] at ha
   have HU:=hid (show (wholeV d).map (fun m=>Lib.itoa (unzig m)) = some (Lib.itoa (-((m:Int) / 2) - 1)) by rw [show wholeV d = some m from HW.out,Option.map_some,unzig_odd hodd])
   have hin:In64 (-((m:Int) / 2) - 1):=by rw [← unzig_odd hodd];exact unzig_in hm
   obtain ⟨z,HZ⟩:∃ z:Int,Hid (-((m:Int) / 2) - 1 = z):=⟨_,hid rfl⟩
   rw [HZ.out] at HU hin
   have hx:bits BinOp.xor IntKind.i64 (-1) ((m:Int) / 2) = z:=by rw [hm2,xor_i64 _ (by omega),← hm2];exact HZ.out
   clear hm2 hodd
   obtain ⟨hi1,hi2⟩:=hin
   have HFL:=hid (show (ByteArray.mk (Lib.itoa z).toArray).toList = Lib.itoa z by rw [ByteArray.toList_eq])
   have HLN:=hid (itoa_len z ⟨hi1,hi2⟩)
   obtain ⟨fb,HFB⟩:∃ fb,Hid (ByteArray.mk (Lib.itoa z).toArray = fb):=⟨_,hid rfl⟩
   rw [HFB.out] at HFL
   have hfs:fb.size ≤ 20:=by rw [← size_list,HFL.out];exact HLN.out
   go_wp2_with fail
   go_region_with (first | (go_at_call 86;refine (Tryz.y_strconv_FormatInt_10 z hi1 hi2 _ (HE1.out.below (Below.refl _ _).drew).t).mono ?_;rintro e w3 ⟨rfl,kk,os,hw3⟩;rw [HFB.out];have HB3:=hid (show Below w1.heap.size w1 w3 by rw [hw3];exact below_drew_grow _ _ _);clear hw3) | (go_at_call 94;refine (writeString_any _ db lo lv v L fb (H1.out.below HB3.out) (by omega) (by omega) (by have:=HB3.out.size;omega)).mono ?_;rintro e w4 ⟨rfl,v4,hd4,hf4⟩;have HD4:=hid hd4;have HF4:=hid hf4;clear hd4 hf4))
   all_goals
    go_wp2_with fail
    go_ret
    exact ⟨true,v4,fb.toList,rfl,HD4.out,((DF.ofBelow _ hb1).trans (DF.ofBelow _ HB3.out)).trans HF4.out,by rw [size_list];exact hfs,by rw [HFL.out];exact HU.out⟩
  ·rw [show m % 2 = 0 by omega] at ha
   have HU:=hid (show (wholeV d).map (fun m=>Lib.itoa (unzig m)) = some (Lib.itoa ((m:Int) / 2)) by rw [show wholeV d = some m from HW.out,Option.map_some,unzig_even hodd])
   have hin:In64 ((m:Int) / 2):=by rw [← unzig_even hodd];exact unzig_in hm
   obtain ⟨z,HZ⟩:∃ z:Int,Hid ((m:Int) / 2 = z):=⟨_,hid rfl⟩
   rw [HZ.out] at HU hin
   have hx:(m:Int) / 2 = z:=HZ.out
   clear hm2 hodd
   obtain ⟨hi1,hi2⟩:=hin
   have HFL:=hid (show (ByteArray.mk (Lib.itoa z).toArray).toList = Lib.itoa z by rw [ByteArray.toList_eq])
   have HLN:=hid (itoa_len z ⟨hi1,hi2⟩)
   obtain ⟨fb,HFB⟩:∃ fb,Hid (ByteArray.mk (Lib.itoa z).toArray = fb):=⟨_,hid rfl⟩
   rw [HFB.out] at HFL
   have hfs:fb.size ≤ 20:=by rw [← size_list,HFL.out];exact HLN.out
   go_wp2_with fail
   go_region_with (first | (go_at_call 86;refine (Tryz.y_strconv_FormatInt_10 z hi1 hi2 _ (HE1.out.below (Below.refl _ _).drew).t).mono ?_;rintro e w3 ⟨rfl,kk,os,hw3⟩;rw [HFB.out];have HB3:=hid (show Below w1.heap.size w1 w3 by rw [hw3];exact below_drew_grow _ _ _);clear hw3) | (go_at_call 94;refine (writeString_any _ db lo lv v L fb (H1.out.below HB3.out) (by omega) (by omega) (by have:=HB3.out.size;omega)).mono ?_;rintro e w4 ⟨rfl,v4,hd4,hf4⟩;have HD4:=hid hd4;have HF4:=hid hf4;clear hd4 hf4))
   all_goals
    go_wp2_with fail
    go_ret
    exact ⟨true,v4,fb.toList,rfl,HD4.out,((DF.ofBelow _ hb1).trans (DF.ofBelow _ HB3.out)).trans HF4.out,by rw [size_list];exact hfs,by rw [HFL.out];exact HU.out⟩
end Go.Proofs.YtdgcamlmjmnpeaaGreatDoor
namespace Go.Proofs.YtdgcamlmjmnpeaaGreatDoor
open Go.RowKit
theorem choD_at {names:List ByteArray} {d:List UInt8} {i:Nat} (h:wholeV d = some i):choD (names.map ByteArray.toList) d = (names[i]?).map ByteArray.toList:=by
 unfold choD;rw [h];simp
set_option maxRecDepth 100000 in
set_option maxHeartbeats 1000000 in
theorem dchoice_any (w:World) (db lo lo2:Nat) (lv v dv nv:Value) (L d:List UInt8) (names:List ByteArray) (h:DcT w db lo lv v L) (hd:RdC w dv d) (hdl:d.length ≤ 1000) (hn:w.ownsRow lo2 9 1 nv names.length (names.map strCell)) (hnl:names.length ≤ 400) (hns:∀ n ∈ names,n.size ≤ 400) (hl:L.length ≤ 900000000) (hlo:lo ≤ w.heap.size) :
  Calls Tryz.prog 56 #[.pointer (some ⟨db,0,none⟩),nv,dv] w (DPost (choD (names.map ByteArray.toList) d) w db lo lv L 400):=by
 unfold DPost
 obtain ⟨da,dc,hdv⟩:∃ a c,dv = .slice a d.length c:=hd.1.slice
 subst hdv
 obtain ⟨na,nc,hnv⟩:∃ a c,nv = .slice a names.length c:=own_slice hn
 subst hnv
 have H:=hid h
 have HD:=hid hd
 have HN:=hid hn
 have HNS:=hid hns
 clear h hd hn hns
 go_enter Tryz.func56,Tryz.ntmps56
 go_wp2_with fail
 refine (wholeNumber_any w _ d HD.out hdl).mono ?_;rintro e w1 ⟨m,ok,rfl,hm,hb1,hw⟩
 have HW:=hid hw
 have H1:=hid (H.out.below hb1)
 have HN1:=hid (own_same HN.out (fun g hg=>hb1.block g (HN.out.lt g hg).2))
 have hz1:=hb1.size
 clear hw
 cases ok with
 | false =>
  have HX:=hid (show choD (names.map ByteArray.toList) d = none by unfold choD;rw [show wholeV d = none from HW.out];rfl)
  go_wp2_with fail
  go_ret
  exact ⟨false,v,[],rfl,by simpa using H1.out,DF.ofBelow _ hb1,by simp,HX.out⟩
 | true =>
  have hwr:IntKind.u64.wrap (names.length:Int) = (names.length:Int):=by rw [IntKind.wrap_u64];omega
  by_cases hlt:m < names.length
  ·obtain ⟨s,hs⟩:∃ s,names[m]? = some s:=⟨names[m],List.getElem?_eq_getElem hlt⟩
   have HX:=hid (show choD (names.map ByteArray.toList) d = some s.toList by rw [choD_at (show wholeV d = some m from HW.out),hs];rfl)
   have hs400:s.size ≤ 400:=HNS.out s (List.mem_of_getElem? hs)
   obtain ⟨g,c,hv,hg,hcell⟩:=str_row HN1.out (by omega)
   obtain ⟨rfl,rfl⟩:na = some ⟨g,0,none⟩ ∧ nc = c:=by simpa using hv
   have hx:w1.cell? ⟨g,m,none⟩ = some (.string s):=hcell m s hs
   have hltI:¬ (names.length:Int) ≤ (m:Int):=by omega
   have hltD:decide ((names.length:Int) ≤ (m:Int)) = false:=by simpa using hltI
   clear hv hcell hs
   have hx':w1.drew.cell? ⟨g,m,none⟩ = some (.string s):=hx
   go_wp2_with fail
   go_region_with (go_at_call 94;refine (writeString_any _ db lo lv v L s (H1.out.below (Below.refl _ _).drew) (by omega) (by omega) (by show lo ≤ w1.heap.size;omega)).mono ?_;rintro e w4 ⟨rfl,v4,hd4,hf4⟩;have HD4:=hid hd4;have HF4:=hid hf4;clear hd4 hf4)
   all_goals
    go_wp2_with fail
    go_ret
    exact ⟨true,v4,s.toList,rfl,HD4.out,((DF.ofBelow _ hb1).trans (DF.ofBelow _ (Below.refl _ _).drew)).trans HF4.out,by rw [size_list];exact hs400,HX.out⟩
  ·have HX:=hid (show choD (names.map ByteArray.toList) d = none by rw [choD_at (show wholeV d = some m from HW.out),List.getElem?_eq_none (by omega)];rfl)
   have hltI:(names.length:Int) ≤ (m:Int):=by omega
   go_wp2_with fail
   go_ret
   exact ⟨false,v,[],rfl,by simpa using H1.out,DF.ofBelow _ hb1,by simp,HX.out⟩
theorem DF.below {db lo:Nat} {w w':World} (h:DF db lo w w') (hd:lo ≤ db) (hl:lo ≤ w.heap.size):Below lo w w' :=
 ⟨h.os,h.tape,h.output,h.size,fun k hk=>h.block k (by omega) (by omega) (Or.inl hk)⟩
theorem and15 (x:Nat) (h:x ≤ 255):bits BinOp.and IntKind.u8 (x:Int) 15 = ((x % 16:Nat):Int):=by
 have all:∀ a:Fin 256,bits BinOp.and IntKind.u8 ((a.val:Nat):Int) 15 = ((a.val % 16:Nat):Int):=by decide +kernel
 exact all ⟨x,by omega⟩
theorem bys_three (w:World) (c1 c2 c3:UInt8):Bys ((w.alloc (.cells #[.int .u8 (c1.toNat:Int),.int .u8 (c2.toNat:Int),.int .u8 (c3.toNat:Int)] 5)).drew) w.heap.size (.slice (some ⟨w.heap.size,0,none⟩) 3 3) [c1,c2,c3]:=by
 have:=World.ownsRow_lit (base:=w.heap.size) (e:=5) (size:=1) w #[.int .u8 (c1.toNat:Int),.int .u8 (c2.toNat:Int),.int .u8 (c3.toNat:Int)] 3 (by simp) (by unfold maxLen;omega) rfl
 exact own_same this (fun _ _=>rfl)
theorem hex_at (n:Nat) (h:n < 16) (i:Int) (hi:i.toNat = n) (hb:i.toNat < (ByteArray.mk #[48,49,50,51,52,53,54,55,56,57,97,98,99,100,101,102]).size):(ByteArray.mk #[48,49,50,51,52,53,54,55,56,57,97,98,99,100,101,102])[i.toNat] = hexD n:=by
 subst hi
 have all:∀ a:Fin 16,(ByteArray.mk #[48,49,50,51,52,53,54,55,56,57,97,98,99,100,101,102])[a.val]'a.isLt = hexD a.val:=by decide
 exact all ⟨i.toNat,h⟩
theorem letD_len (c:UInt8):(letD c).length ≤ 3:=by unfold letD;split <;> simp
theorem lets_len (l:List UInt8):(l.flatMap letD).length ≤ 3 * l.length:=by
 induction l with
 | nil=>simp
 | cons c r ih=>rw [List.flatMap_cons,List.length_append,List.length_cons];have:=letD_len c;omega
set_option maxRecDepth 100000 in
set_option maxHeartbeats 2000000 in
theorem dletters_any (w:World) (db lo:Nat) (lv v dv:Value) (L d:List UInt8) (h:DcT w db lo lv v L) (hd:RdC w dv d) (hdl:d.length ≤ 1000) (hdb:∀ k,dv.ownBlock = some k → 0 < d.length → k < lo) (hldb:lo ≤ db) (hl:L.length ≤ 900000000) (hlo:lo ≤ w.heap.size) :
  Calls Tryz.prog 57 #[.pointer (some ⟨db,0,none⟩),dv] w fun e w'=>e = .returned (.tuple #[]) ∧ WPost w db lo lv (L ++ textD d) w':=by
 unfold WPost
 obtain ⟨da,dc,hdv⟩:∃ a c,dv = .slice a d.length c:=hd.1.slice
 subst hdv
 have H:=hid h
 have HD:=hid hd.1
 have HDB:=hid hdb
 clear h hd hdb
 go_enter Tryz.func57,Tryz.ntmps57
 go_wp2_with fail
 refine (writeByte_any _ db lo lv v L 34 34 rfl H.out (by omega) hlo).mono ?_;rintro e w1 ⟨rfl,v1,hd1,hf1⟩
 have HT1:=hid hd1
 have HF1:=hid hf1
 clear hd1 hf1
 go_wp2_with fail
 go_loopg [5,12] d.length (fun gk x5 i12 wr=>∃ (k:Nat) (v':Value) (T:List UInt8),k + gk = d.length ∧ i12 = .int .i64 k ∧ Hid (DcT wr db lo lv v' T) ∧ Hid (T = L ++ 34 :: (d.take k).flatMap letD) ∧ T.length ≤ L.length + 1 + 3 * k ∧ DF db lo w wr)
 case atStart=>exact ⟨0,v1,L ++ [34],by omega,rfl,hid HT1.out,hid (by simp),by simp,HF1.out⟩
 case round =>
  obtain ⟨k,v',T,hk,rfl,HDT,HTE,hTl,hdf⟩:=hrel
  have hzr:=hdf.size
  by_cases hlt:k < d.length
  ·obtain ⟨b,o,c',hv,hb,hcell⟩:=(HD.out.same (hdf.below hldb hlo) (fun q hq h0=>HDB.out q hq h0)).at (by omega)
   obtain ⟨rfl,rfl⟩:da = some ⟨b,o,none⟩ ∧ dc = c':=by simpa using hv
   have hx:wr.cell? ⟨b,o + k,none⟩ = some (.int .u8 (d[k].toNat:Int)):=hcell k hlt
   clear hv hcell
   obtain ⟨c,HC⟩:∃ c,Hid (d[k] = c):=⟨_,hid rfl⟩
   rw [HC.out] at hx
   have HT2:=hid (show L ++ 34 :: (d.take (k + 1)).flatMap letD = T ++ letD c by rw [HTE.out,List.take_succ_eq_append_getElem hlt,HC.out];simp)
   have HPC:=hid (plain_eq c).symm
   cases hpl:plainC c with
   | true =>
    have HL:=hid (show letD c = [c] by unfold letD;rw [hpl];rfl)
    rw [hpl] at HPC
    clear hpl
    go_wp2_with fail
    refine (isPlain_any _ _).mono ?_;rintro e w2 ⟨rfl,rfl⟩
    rw [HPC.out]
    go_wp2_with fail
    refine (writeByte_any _ db lo lv v' T c _ rfl HDT.out (by omega) (by omega)).mono ?_;rintro e w3 ⟨rfl,v3,hd3,hf3⟩
    have HD3:=hid hd3
    have hdf3:=hdf.trans hf3
    clear hd3 hf3
    go_wp2_with fail
    go_roundg (gk - 1)
    case rel=>exact ⟨k + 1,v3,T ++ [c],by omega,by go_num,hid HD3.out,hid (by rw [HT2.out,HL.out]),by rw [List.length_append,List.length_singleton];omega,hdf3⟩
    case measure=>omega
   | false =>
    rw [hpl] at HPC
    have hc255:c.toNat ≤ 255:=by have:=c.toNat_lt;omega
    have HPL:=hid hpl
    clear hpl
    go_wp2_with fail
    refine (isPlain_any _ _).mono ?_;rintro e w2 ⟨rfl,rfl⟩
    rw [HPC.out]
    have he15:=and15 c.toNat hc255
    have hd1:(0:Int) ≤ (c.toNat:Int) / 16:=by omega
    have hd2:(c.toNat:Int) / 16 < 16:=by omega
    have hd3:(c.toNat % 16:Nat) < 16:=by omega
    go_wp2_with fail
    go_region_with (go_at_call 97;refine (write3_any _ db lo w2.heap.size lv v' _ T 92 _ _ (HDT.out.below ((Below.refl _ _).alloc (Nat.le_refl _) _).drew) (bys_three w2 _ _ _) (fun e=>by have:=HDT.out.lt;simp [Value.ownBlock] at e;omega) (by omega) (by simp;omega)).mono ?_;rintro e w4 ⟨rfl,v4,hd4,hf4⟩;have HD4:=hid hd4;have HF4:=hid hf4;clear hd4 hf4)
    all_goals
     rw [hex_at (c.toNat / 16) (by omega) ((c.toNat:Int) / 16) (by omega),hex_at (c.toNat % 16) (by omega) ((c.toNat:Int) % 16) (by omega)] at HD4
     have HL:=hid (show letD c = [92,hexD (c.toNat / 16),hexD (c.toNat % 16)] by unfold letD;rw [HPL.out];rfl)
     have hdf4:=(hdf.trans (DF.ofBelow _ ((Below.refl _ _).alloc (Nat.le_refl _) _).drew)).trans HF4.out
     go_wp2_with fail
     go_roundg (gk - 1)
     case rel=>exact ⟨k + 1,v4,T ++ letD c,by omega,by go_num,hid (by rw [HL.out];have:=HD4.out;simpa using this),hid (by rw [HT2.out]),by rw [List.length_append];have:=letD_len c;omega,hdf4⟩
     case measure=>omega
  ·have HTe:=hid (show T = L ++ 34 :: d.flatMap letD by rw [HTE.out,List.take_of_length_le (by omega)])
   go_wp2_with fail
   refine (writeByte_any _ db lo lv v' T 34 34 rfl HDT.out (by omega) (by omega)).mono ?_;rintro e w3 ⟨rfl,v3,hd3,hf3⟩
   have HD3:=hid hd3
   have hdf3:=hdf.trans hf3
   clear hd3 hf3
   go_wp2_with fail
   go_end0
   exact ⟨rfl,v3,by have:=HD3.out;rw [HTe.out] at this;unfold textD;simpa using this,hdf3⟩
end Go.Proofs.YtdgcamlmjmnpeaaGreatDoor
namespace Go.Proofs.YtdgcamlmjmnpeaaGreatDoor
open Go.RowKit
def pairCells (x:Nat × Value):List Value:=[.int .u64 x.1,x.2]
def Pts (w:World) (lo dlo:Nat) (pv:Value) (ps:List (Nat × List UInt8)):Prop:=∃ us:List (Nat × Value),us.length = ps.length ∧ w.ownsRow lo 186 2 pv us.length (us.flatMap pairCells) ∧
 ∀ (i:Nat) (x:Nat × Value) (p:Nat × List UInt8),us[i]? = some x → ps[i]? = some p → x.1 = p.1 ∧ RdC w x.2 p.2 ∧ (∀ k,x.2.ownBlock = some k → k < dlo)
theorem RdC.same {w w':World} {v:Value} {L:List UInt8} {B:Nat} (h:RdC w v L) (hb:Below B w w') (hB:∀ k,v.ownBlock = some k → k < B):RdC w' v L:=⟨h.1.same hb (fun k hk _=>hB k hk),h.2⟩
theorem Pts.below {w w':World} {lo dlo:Nat} {pv:Value} {ps:List (Nat × List UInt8)} (h:Pts w lo dlo pv ps) (hb:Below w.heap.size w w') (hd:dlo ≤ w.heap.size):Pts w' lo dlo pv ps:=by
 obtain ⟨us,hl,ho,hr⟩:=h
 refine ⟨us,hl,own_same ho (fun g hg=>hb.block g (ho.lt g hg).2),fun i x p hx hp=>?_⟩
 obtain ⟨h1,h2,h3⟩:=hr i x p hx hp
 exact ⟨h1,h2.same hb (fun k hk=>by have:=h3 k hk;omega),h3⟩
def PtAt (d:List UInt8) (f last:Nat) (D:List UInt8) (ps:List (Nat × List UInt8)):Prop:=D.length ≤ f ∧ partsD d = (partsGo f last D).map fun o=>ps ++ o
theorem PtAt.begin (d:List UInt8):PtAt d d.length 0 d []:=⟨Nat.le_refl _,by unfold partsD;cases partsGo d.length 0 d <;> simp⟩
theorem PtAt.done {d:List UInt8} {f last:Nat} {ps:List (Nat × List UInt8)} (h:PtAt d f last [] ps):partsD d = some ps:=by
 rw [h.2,partsGo_eq,if_pos rfl];simp
theorem PtAt.step {d:List UInt8} {f last:Nat} {D:List UInt8} {ps:List (Nat × List UInt8)} (h:PtAt d f last D ps) (h0:D ≠ []) :
  partsD d = ((takeV D).bind fun x=>(takeC x.2).bind fun y=>if last < x.1 ∧ x.1 ≤ 99 then (partsGo (f - 1) x.1 y.2).map fun o=>(x.1,y.1) :: o else none).map fun o=>ps ++ o:=by
 obtain ⟨h1,h2⟩:=h
 have hl:0 < D.length:=List.length_pos_iff.2 h0
 obtain ⟨f',rfl⟩:∃ f',f = f' + 1:=⟨f - 1,by omega⟩
 rw [h2,partsGo_eq,if_neg h0];rfl
theorem PtAt.next {d:List UInt8} {f last n:Nat} {D R V R2:List UInt8} {ps:List (Nat × List UInt8)} (h:PtAt d f last D ps) (h0:D ≠ []) (h1:takeV D = some (n,R)) (h2:takeC R = some (V,R2)) (h3:last < n ∧ n ≤ 99):PtAt d (f - 1) n R2 (ps ++ [(n,V)]):=by
 refine ⟨?_,?_⟩
 ·have:=takeV_shorter h1
  have:=takeC_len h2
  have:=h.1
  omega
 ·rw [h.step h0,h1]
  simp only [Option.bind_some,h2,if_pos h3,Option.map_map]
  congr 1
  funext o
  simp
theorem Tryz.infoPart:(Tryz.prog.info? 186).map (fun i=>(i.zero,i.size,i.bytes)) = some (some (.agg #[.int .u64 0,.slice none 0 0]),2,32):=by kernel_rfl
def PartsPost (w:World) (dlo:Nat) (d:List UInt8) (e:Ending) (w':World):Prop:=∃ (a:Option Addr) (l c:Nat) (ok:Bool),e = .returned (.tuple #[.slice a l c,.bool ok]) ∧ Below w.heap.size w w' ∧ (match ok with | true=>∃ ps,partsD d = some ps ∧ l = ps.length ∧ Pts w' w.heap.size dlo (.slice a l c) ps | false=>partsD d = none)
set_option maxRecDepth 100000 in
set_option maxHeartbeats 4000000 in
theorem partsOf_any (w:World) (dlo:Nat) (dv:Value) (d:List UInt8) (hd:RdC w dv d) (hdl:d.length ≤ 1000) (hdb:∀ k,dv.ownBlock = some k → 0 < d.length → k < dlo) (hlo:dlo ≤ w.heap.size) :
  Calls Tryz.prog 98 #[dv] w (PartsPost w dlo d):=by
 unfold PartsPost
 obtain ⟨da,dc,hdv⟩:∃ a c,dv = .slice a d.length c:=hd.1.slice
 subst hdv
 have HD:=hid hd
 have HDB:=hid hdb
 clear hd hdb
 go_enter Tryz.func98,Tryz.ntmps98
 go_wp2_with fail
 go_loopg [0,4,5,6,7,8,9,10,11] d.length (fun gk d0 p4 l5 x6 x7 x8 x9 x10 x11 wr=>∃ (D:List UInt8) (a:Option Addr) (c:Nat) (ps:List (Nat × List UInt8)) (pa:Option Addr) (pc last f:Nat),d0 = .slice a D.length c ∧ D.length ≤ gk ∧ gk ≤ d.length ∧ Hid (RdC wr (.slice a D.length c) D) ∧ Hid (∀ k,(Value.slice a D.length c).ownBlock = some k → 0 < d.length → k < dlo) ∧ p4 = .slice pa ps.length pc ∧ Hid (Pts wr w.heap.size dlo (.slice pa ps.length pc) ps) ∧ l5 = .int .u64 last ∧ last ≤ 99 ∧ ps.length + D.length ≤ d.length ∧ Hid (PtAt d f last D ps) ∧ Below w.heap.size w wr)
 case atStart=>exact ⟨d,da,dc,[],none,0,0,d.length,rfl,Nat.le_refl _,Nat.le_refl _,hid HD.out,hid HDB.out,rfl,hid ⟨[],rfl,World.ownsRow_nil _ _ _ _,fun i x p hx=>by simp at hx⟩,rfl,by omega,by simp,hid (PtAt.begin d),Below.refl _ _⟩
 case round =>
  obtain ⟨D,a,c,ps,pa,pc,last,f,rfl,hDg,hgd,HR,HB,rfl,HP,rfl,hl99,hpl,HT,hbel⟩:=hrel
  have hzr:=hbel.size
  by_cases hD0:D.length = 0
  ·have hDn:D = []:=List.eq_nil_of_length_eq_zero hD0
   have HF:=hid (show partsD d = some ps by have:=HT.out;rw [hDn] at this;exact this.done)
   clear hDn
   go_wp2_with fail
   go_ret2
   exact ⟨pa,ps.length,pc,true,rfl,hbel,ps,HF.out,rfl,HP.out⟩
  ·have hD0I:(0:Int) < (D.length:Int):=by omega
   have HDn:=hid (show D ≠ [] from fun e=>hD0 (by rw [e];rfl))
   go_wp2_with fail
   refine (numTake_any wr _ D HR.out (by omega)).mono ?_;rintro e w1 ⟨n,a1,c1,R,ok1,rfl,hn,hR1,hRl,hblk1,hb1,htk⟩
   have HR1:=hid hR1
   have HB1:=hid (fun k hk=>HB.out k (hblk1 k hk) (by omega))
   have HTK:=hid htk
   have hz1:=hb1.size
   have hbel1:=hbel.trans (hb1.mono hzr)
   have HP1:=hid (HP.out.below hb1 (by omega))
   clear hR1 hblk1 htk
   go_wp2_with fail
   refine (takeCounted_any w1 _ R HR1.out (by omega)).mono ?_;rintro e w2 ⟨a2,a3,c2,c3,V,R2,ok2,rfl,hV,hR2,hVR,hblk2,hblk3,hb2,htc⟩
   have HV:=hid hV
   have HR2:=hid hR2
   have HB2:=hid (fun k hk=>HB1.out k (hblk2 k hk))
   have HB3:=hid (fun k hk=>HB1.out k (hblk3 k hk))
   have HTC:=hid htc
   have hz2:=hb2.size
   have hbel2:=hbel1.trans (hb2.mono hbel1.size)
   have HP2:=hid (HP1.out.below hb2 (by omega))
   have HST:=hid (HT.out.step HDn.out)
   clear hV hR2 hblk2 hblk3 htc
   cases ok1 with
   | false =>
    have HF:=hid (show partsD d = none by rw [HST.out,show takeV D = none from HTK.out];rfl)
    go_wp2_with fail
    go_ret2
    exact ⟨none,0,0,false,rfl,hbel2,HF.out⟩
   | true =>
    cases ok2 with
    | false =>
     have HF:=hid (show partsD d = none by rw [HST.out,show takeV D = some (n,R) from HTK.out];simp only [Option.bind_some];rw [show takeC R = none from HTC.out];rfl)
     go_wp2_with fail
     go_ret2
     exact ⟨none,0,0,false,rfl,hbel2,HF.out⟩
    | true =>
     have hsh:=takeV_shorter (show takeV D = some (n,R) from HTK.out)
     have hcl:=takeC_len (show takeC R = some (V,R2) from HTC.out)
     by_cases hlast:last < n
     ·have hlI:¬ (n:Int) ≤ (last:Int):=by omega
      have hlD:decide ((n:Int) ≤ (last:Int)) = false:=by simpa using hlI
      by_cases h99:n ≤ 99
      ·have h99I:¬ (99:Int) < (n:Int):=by omega
       have h99D:decide ((99:Int) < (n:Int)) = false:=by simpa using h99I
       have HN:=hid (HT.out.next HDn.out HTK.out HTC.out ⟨hlast,h99⟩)
       obtain ⟨us,hul,huo,hur⟩:=HP2.out
       have HUO:=hid huo
       have HUR:=hid hur
       have HUL:=hid hul
       clear huo hur hul
       rw [HUL.out] at HUO
       go_wp2_with (at_builtin;refine wpList_append_gen _ rfl _ _ 181 186 _ 2 32 rfl Tryz.underlying181 Tryz.infoPart rfl (by decide) _ ps.length _ w.heap.size rfl (World.ownsRow.alloc HUO.out _) ⟨_,0,none⟩ 1 1 (pairCells (n,.slice a2 V.length c2)) rfl rfl (cells_new_at _ _ (by simp) #[.int .u64 n,.slice a2 V.length c2] _) (by simp [pairCells,Value.oneCell']) (ps.length + 1) rfl _ rfl (by unfold maxLen;omega) (by omega) (by simp;omega) ?_)
       intro a5 c5 w5 ho5 hg5
       have hgb:Below w.heap.size (w2.alloc (.cells #[.int .u64 n,.slice a2 V.length c2] 186)) w5:=hg5.below (fun q hq=>(HUO.out.lt q hq).1) (by simp;omega)
       have hb25:Below w.heap.size w2 w5:=((Below.refl _ _).alloc (by omega) _).trans hgb
       have hbel5:Below w.heap.size w w5:=hbel2.trans hb25
       have HP5:=hid (show Pts w5 w.heap.size dlo (.slice a5 (ps.length + 1) c5) (ps ++ [(n,V)]) from by
        refine ⟨us ++ [(n,.slice a2 V.length c2)],by simp [HUL.out],?_,fun i x p hx hp=>?_⟩
        ·have:=ho5
         rw [List.length_append,List.length_singleton,HUL.out,List.flatMap_append]
         simpa using this
        ·rcases Nat.lt_or_ge i us.length with hi | hi
         ·rw [List.getElem?_append_left hi] at hx
          rw [List.getElem?_append_left (by have:=HUL.out;omega)] at hp
          obtain ⟨h1,h2,h3⟩:=HUR.out i x p hx hp
          exact ⟨h1,h2.same hb25 (fun k hk=>by have:=h3 k hk;omega),h3⟩
         ·rw [List.getElem?_append_right hi] at hx
          rw [List.getElem?_append_right (by have:=HUL.out;omega)] at hp
          have hi0:i - us.length = 0:=by
           rcases Nat.eq_zero_or_pos (i - us.length) with e | e
           ·exact e
           ·rw [List.getElem?_eq_none (by simp;omega)] at hx;cases hx
          rw [hi0] at hx
          rw [show i - ps.length = 0 by have:=HUL.out;omega] at hp
          simp at hx hp
          subst hx hp
          exact ⟨rfl,HV.out.same hb25 (fun k hk=>by have:=HB2.out k hk;omega),HB2.out⟩)
       have HR5:=hid (HR2.out.same hb25 (fun k hk=>by have:=HB3.out k hk;omega))
       have HPL:=hid (show (ps ++ [(n,V)]).length = ps.length + 1 by simp)
       clear ho5 hg5 hgb
       go_wp2_with fail
       go_roundg R2.length
       case rel=>exact ⟨R2,a3,c3,ps ++ [(n,V)],a5,c5,n,f - 1,rfl,Nat.le_refl _,by omega,hid HR5.out,hid (fun k hk _=>HB3.out k hk),by rw [HPL.out],hid (by rw [HPL.out];exact HP5.out),rfl,h99,by rw [HPL.out];omega,hid HN.out,hbel5⟩
       case measure=>omega
      ·have h99I:(99:Int) < (n:Int):=by omega
       have HF:=hid (show partsD d = none by rw [HST.out,show takeV D = some (n,R) from HTK.out];simp only [Option.bind_some];rw [show takeC R = some (V,R2) from HTC.out];simp only [Option.bind_some];rw [if_neg (by omega)];rfl)
       go_wp2_with fail
       go_ret2
       exact ⟨none,0,0,false,rfl,hbel2,HF.out⟩
     ·have hlI:(n:Int) ≤ (last:Int):=by omega
      have HF:=hid (show partsD d = none by rw [HST.out,show takeV D = some (n,R) from HTK.out];simp only [Option.bind_some];rw [show takeC R = some (V,R2) from HTC.out];simp only [Option.bind_some];rw [if_neg (by omega)];rfl)
      go_wp2_with fail
      go_ret2
      exact ⟨none,0,0,false,rfl,hbel2,HF.out⟩
end Go.Proofs.YtdgcamlmjmnpeaaGreatDoor
namespace Go.Proofs.YtdgcamlmjmnpeaaGreatDoor
open Go.RowKit
structure Fits (l d:Nat):Prop where
 out:l + 1000 * (d + 1) ≤ 800000000
structure Grows (s D m d:Nat):Prop where
 out:s + 1000 * D ≤ 1 + 1000 * d + m
abbrev decP (X:List PIV) (n:Nat):=decE (tyP X) n
def DVal (X:List PIV) (n:Nat):Prop:=∀ (w0 w:World) (db lo:Nat) (la:Option Addr) (ll lc:Nat) (v dv:Value) (L d:List UInt8) (base:ByteArray),PIts w0 lo (.slice la ll lc) X → RdC w0 dv d → Env w0 → Below w0.heap.size w0 w → w0.heap.size ≤ db → DcT w db w0.heap.size (.slice la ll lc) v L → d.length ≤ 64 → Fits L.length d.length →
 Calls Tryz.prog 23 #[.pointer (some ⟨db,0,none⟩),.string base,dv,.int .i64 ((7:Int) - n)] w (DPost ((decP X n).1 base.toList d) w db w0.heap.size (.slice la ll lc) L (1000 * (d.length + 1)))
def DLst (X:List PIV) (n:Nat):Prop:=∀ (w0 w:World) (db lo:Nat) (la:Option Addr) (ll lc:Nat) (v dv:Value) (L d:List UInt8) (base:ByteArray),PIts w0 lo (.slice la ll lc) X → RdC w0 dv d → Env w0 → Below w0.heap.size w0 w → w0.heap.size ≤ db → DcT w db w0.heap.size (.slice la ll lc) v L → d.length ≤ 64 → Fits L.length d.length →
 Calls Tryz.prog 145 #[.pointer (some ⟨db,0,none⟩),.string base,dv,.int .i64 ((7:Int) - n)] w (DPost ((decP X n).2 base.toList d) w db w0.heap.size (.slice la ll lc) L (1000 * (d.length + 1)))
theorem RdC.later {w w':World} {v:Value} {L:List UInt8} (h:RdC w v L) (hb:Below w.heap.size w w'):RdC w' v L:=⟨h.1.later hb,h.2⟩
theorem RdC.back {w w':World} {v u:Value} {L D:List UInt8} (h:RdC w' v L) (hb:Below w.heap.size w w') (hd:RdC w u D) (hk:∀ k,v.ownBlock = some k → u.ownBlock = some k) (hl:0 < L.length → 0 < D.length):RdC w v L:=by
 refine ⟨?_,h.2⟩
 rcases h.1 with h1 | ⟨a,c,rfl,hc⟩
 ·exact Or.inl h1
 ·refine Or.inr ⟨a,c,rfl,fun j x hx=>?_⟩
  have hL:0 < L.length:=by
   rcases Nat.eq_zero_or_pos L.length with e | e
   ·have:=List.eq_nil_of_length_eq_zero e;subst this;simp at hx
   ·exact e
  have h1:=hc j x hx
  have h2:(a.add j).block = a.block:=by unfold Addr.add;split <;> rfl
  have h3:=hd.1.lt a.block (hk a.block rfl) (hl hL)
  rw [hb.cell (p:=a.add j) (by rw [h2];exact h3)] at h1
  exact h1
theorem DPost.turn {spec spec':Txt} {w:World} {db lo:Nat} {lv:Value} {L:List UInt8} {K K':Nat} {e:Ending} {w':World} (h:DPost spec w db lo lv L K e w') (hs:spec' = spec) (hk:K ≤ K'):DPost spec' w db lo lv L K' e w':=by
 subst hs
 obtain ⟨ok,v',S,h1,h2,h3,h4,h5⟩:=h
 exact ⟨ok,v',S,h1,h2,h3,by omega,h5⟩
theorem DPost.back {spec:Txt} {w wf:World} {db lo:Nat} {lv:Value} {L:List UInt8} {K:Nat} {e:Ending} {w':World} (h:DPost spec wf db lo lv L K e w') (hb:Below w.heap.size w wf):DPost spec w db lo lv L K e w':=by
 obtain ⟨ok,v',S,h1,h2,h3,h4,h5⟩:=h
 exact ⟨ok,v',S,h1,h2,(DF.ofBelow _ hb).trans h3,h4,h5⟩
set_option maxRecDepth 100000 in
set_option maxHeartbeats 1000000 in
theorem dlistTop_any (X:List PIV):DLst X 0:=by
 intro w0 w db lo la ll lc v dv L d base hI hd hE hb hdb h hdl hL
 unfold DPost
 obtain ⟨da,dc,hdv⟩:∃ a c,dv = .slice a d.length c:=hd.1.slice
 subst hdv
 have H:=hid h
 clear h hI hE hd
 rw [show (7:Int) - (0:Nat) = 7 by omega]
 go_enter Tryz.func145,Tryz.ntmps145
 go_wp2_with fail
 go_ret
 exact ⟨false,v,[],rfl,by simpa using H.out,DF.refl _ _ _,by simp,rfl⟩
def LDp (G:Txt) (val:List UInt8 → Txt) (D:List UInt8) (m:Nat) (S:List UInt8):Prop:=m ≤ 16 ∧ G = (listD val (16 - m) (decide (m = 0)) D).map fun o=>S ++ o
theorem LDp.begin {G:Txt} {val:List UInt8 → Txt} {d:List UInt8} (h:G = (listD val 16 true d).map fun o=>91 :: o):LDp G val d 0 [91]:=by
 refine ⟨by omega,?_⟩
 rw [h]
 simp
theorem LDp.shut {G:Txt} {val:List UInt8 → Txt} {m:Nat} {S:List UInt8} (h:LDp G val [] m S):G = some (S ++ [93]):=by
 rw [h.2,listD_eq,if_pos rfl];rfl
theorem LDp.bad {G:Txt} {val:List UInt8 → Txt} {D:List UInt8} {m:Nat} {S:List UInt8} (h:LDp G val D m S) (h0:D ≠ []) (hb:takeC D = none ∨ m = 16):G = none:=by
 rw [h.2,listD_eq,if_neg h0]
 rcases hb with hb | hb
 ·cases 16 - m with
  | zero=>rfl
  | succ q=>simp [hb]
 ·rw [hb];rfl
theorem LDp.next {G:Txt} {val:List UInt8 → Txt} {D V R:List UInt8} {m:Nat} {S:List UInt8} (h:LDp G val D m S) (h0:D ≠ []) (hm:m < 16) (ht:takeC D = some (V,R)) :
  (val V = none → G = none) ∧ ∀ s,val V = some s → LDp G val R (m + 1) (S ++ (sepD (decide (m = 0)) ++ s)):=by
 have h':=h.2
 rw [listD_eq,if_neg h0] at h'
 obtain ⟨q,hq⟩:∃ q,16 - m = q + 1:=⟨15 - m,by omega⟩
 rw [hq] at h'
 simp only [ht,Option.bind_some] at h'
 refine ⟨fun hv=>by rw [h',hv];rfl,fun s hv=>⟨by omega,?_⟩⟩
 rw [h',hv,show 16 - (m + 1) = q by omega,show decide (m + 1 = 0) = false by simp]
 simp only [Option.bind_some,Option.map_map]
 congr 1
 funext o
 simp
set_option maxRecDepth 100000 in
set_option maxHeartbeats 4000000 in
theorem dlist_any {X:List PIV} {n:Nat} (hn6:n ≤ 6) (hV:DVal X n):DLst X (n + 1):=by
 intro w0 w db lo la ll lc v dv L d base hI hd hE hb hdb h hdl hL
 unfold DPost
 obtain ⟨da,dc,hdv⟩:∃ a c,dv = .slice a d.length c:=hd.1.slice
 subst hdv
 obtain ⟨dd,hdd⟩:∃ dd:Int,dd = (7:Int) - ((n + 1:Nat):Int):=⟨_,rfl⟩
 rw [← hdd]
 have HDD:=hid (show dd + 1 = (7:Int) - n by omega)
 have hd6:¬ (6:Int) < dd:=by omega
 have hdl0:(0:Int) ≤ dd:=by omega
 clear hdd
 have H:=hid h
 have HI:=hid hI
 have HE:=hid hE
 have HV:=hid hV
 have HD:=hid hd
 clear h hI hE hV hd
 obtain ⟨G,hG⟩:∃ G,(decP X (n + 1)).2 base.toList d = G:=⟨_,rfl⟩
 rw [hG]
 have HG:=hid (show G = (listD ((decP X n).1 base.toList) 16 true d).map fun o=>91 :: o by rw [← hG];rfl)
 clear hG
 have hz0:=hb.size
 have HL:=hL
 have HDL:=hid hdl
 clear hL hdl
 go_enter Tryz.func145,Tryz.ntmps145
 go_wp2_with fail
 refine (writeByte_any _ db w0.heap.size _ v L 91 91 rfl H.out (by have h1:=HL.out;omega) hz0).mono ?_;rintro e w1 ⟨rfl,v1,hd1,hf1⟩
 have HT1:=hid hd1
 have HF1:=hid hf1
 clear hd1 hf1
 go_wp2_with fail
 go_loopg [2,9,10,11,12] 17 (fun gk d2 c9 x10 x11 x12 wr=>∃ (m:Nat) (D:List UInt8) (a:Option Addr) (c:Nat) (v':Value) (S:List UInt8),m + gk = 17 ∧ c9 = .int .i64 m ∧ d2 = .slice a D.length c ∧ Hid (RdC w0 (.slice a D.length c) D) ∧ Hid (D.length ≤ d.length) ∧ Hid (DcT wr db w0.heap.size (.slice la ll lc) v' (L ++ S)) ∧ Grows S.length D.length m d.length ∧ DF db w0.heap.size w wr ∧ Hid (LDp G ((decP X n).1 base.toList) D m S))
 case atStart=>exact ⟨0,d,da,dc,v1,[91],by omega,rfl,rfl,hid HD.out,hid (Nat.le_refl _),hid HT1.out,⟨by simp⟩,HF1.out,hid (LDp.begin HG.out)⟩
 case round =>
  obtain ⟨m,D,a,c,v',S,hm,rfl,rfl,HR,HDd,HT,HSl,hdf,HS⟩:=hrel
  have hm16:m ≤ 16:=HS.out.1
  have hbr:Below w0.heap.size w0 wr:=hb.trans (hdf.below hdb hz0)
  have hzr:=hbr.size
  by_cases hD0:D.length = 0
  ·have hDn:D = []:=List.eq_nil_of_length_eq_zero hD0
   have HF:=hid (show G = some (S ++ [93]) by have:=HS.out;rw [hDn] at this;exact this.shut)
   clear hDn
   go_wp2_with fail
   refine (writeByte_any _ db w0.heap.size _ v' (L ++ S) 93 93 rfl HT.out (by rw [List.length_append];have h1:=HL.out;have h2:=HSl.out;omega) hzr).mono ?_;rintro e w2 ⟨rfl,v2,hd2,hf2⟩
   have HD2:=hid hd2
   have hdf2:=hdf.trans hf2
   clear hd2 hf2
   go_wp2_with fail
   go_ret
   exact ⟨true,v2,S ++ [93],rfl,by rw [← List.append_assoc];exact HD2.out,hdf2,by rw [List.length_append,List.length_singleton];have h2:=HSl.out;omega,HF.out⟩
  ·have hD0I:(0:Int) < (D.length:Int):=by omega
   have HDn:=hid (show D ≠ [] from fun e=>hD0 (by rw [e];rfl))
   have HRr:=hid (HR.out.later hbr)
   go_wp2_with fail
   refine (takeCounted_any wr _ D HRr.out (by have h3:=HDd.out;have h4:=HDL.out;omega)).mono ?_;rintro e w2 ⟨a2,a3,c2,c3,V,R,ok2,rfl,hV,hR2,hVR,hblk2,hblk3,hb2,htc⟩
   have hb02:Below w0.heap.size w0 w2:=hbr.trans (hb2.mono hzr)
   have HV0:=hid (hV.back hb02 HR.out hblk2 (fun _=>by omega))
   have HR0:=hid (hR2.back hb02 HR.out hblk3 (fun _=>by omega))
   have HTC:=hid htc
   have HT2:=hid (HT.out.below hb2)
   have hdf2:=hdf.trans (DF.ofBelow _ hb2)
   have hz2:=hb02.size
   clear hV hR2 hblk2 hblk3 htc
   cases ok2 with
   | false =>
    have HF:=hid (HS.out.bad HDn.out (Or.inl HTC.out))
    go_wp2_with fail
    go_ret
    exact ⟨false,v',S,rfl,HT2.out,hdf2,by have h2:=HSl.out;have h3:=HDd.out;omega,HF.out⟩
   | true =>
    have hcl:=takeC_len (show takeC D = some (V,R) from HTC.out)
    by_cases h16:m = 16
    ·have HF:=hid (HS.out.bad HDn.out (Or.inr h16))
     subst h16
     go_wp2_with fail
     go_ret
     exact ⟨false,v',S,rfl,HT2.out,hdf2,by have h2:=HSl.out;have h3:=HDd.out;omega,HF.out⟩
    ·have h16I:¬ (m:Int) = 16:=by omega
     have h16B:((m:Int) == 16) = false:=by simp;omega
     have HNX:=hid (HS.out.next HDn.out (by omega) HTC.out)
     by_cases hm0:m = 0
     ·subst hm0
      have HBW:=hid hb02
      have HDW:=HT2
      have HDFW:=hid hdf2
      have HVV:=hid (HV.out w0 w2 db lo la ll lc v' (.slice a2 V.length c2) (L ++ S) V base HI.out HV0.out HE.out HBW.out hdb HDW.out (by have h3:=HDd.out;have h4:=HDL.out;omega) ⟨by rw [List.length_append];have h1:=HL.out;have h2:=HSl.out;omega⟩)
      rw [← HDD.out] at HVV
      go_wp2_with fail
      refine HVV.out.mono ?_;rintro e w4 ⟨ok4,v4,S4,rfl,hd4,hf4,hl4,hsp4⟩
      have HD4:=hid hd4
      have HSP:=hid hsp4
      have hdf4:=HDFW.out.trans hf4
      have HL4:=hid hl4
      clear hd4 hf4 hsp4 HVV hl4
      cases ok4 with
      | false =>
       have HF:=hid (HNX.out.1 HSP.out)
       go_wp2_with fail
       go_ret
       exact ⟨false,v4,S ++ S4,rfl,by rw [← List.append_assoc];exact HD4.out,hdf4,by rw [List.length_append];have h2:=HSl.out;have h5:=HL4.out;omega,HF.out⟩
      | true =>
       have HN:=hid (HNX.out.2 S4 HSP.out)
       go_wp2_with fail
       go_roundg (gk - 1)
       case rel=>exact ⟨0 + 1,R,a3,c3,v4,S ++ S4,by omega,by go_num,rfl,hid HR0.out,hid (by have h3:=HDd.out;omega),hid (by rw [← List.append_assoc];exact HD4.out),⟨by rw [List.length_append];have h2:=HSl.out;have h5:=HL4.out;omega⟩,hdf4,hid (by have:=HN.out;simpa [sepD] using this)⟩
       case measure=>omega
     ·have hm0I:(0:Int) < (m:Int):=by omega
      go_wp2_with fail
      refine (writeByte_any _ db w0.heap.size _ v' (L ++ S) 44 44 rfl HT2.out (by rw [List.length_append];have h1:=HL.out;have h2:=HSl.out;omega) hz2).mono ?_;rintro e w3 ⟨rfl,v3,hd3,hf3⟩
      have hdf3:=hdf2.trans hf3
      have HBW:=hid (show Below w0.heap.size w0 w3 from hb.trans (hdf3.below hdb hz0))
      have HDW:=hid (show DcT w3 db w0.heap.size (.slice la ll lc) v3 (L ++ (S ++ [44])) by rw [← List.append_assoc];exact hd3)
      have HDFW:=hid hdf3
      obtain ⟨S3,HS3⟩:∃ S3,Hid (S ++ [44] = S3):=⟨_,hid rfl⟩
      have hS3l:S3.length = S.length + 1:=by rw [← HS3.out];simp
      have HS3L:=hid hS3l
      have hS3le:S3.length ≤ S.length + 1:=by omega
      rw [HS3.out] at HDW
      clear hd3 hf3 hdf3 hS3l
      have HVV:=hid (HV.out w0 w3 db lo la ll lc v3 (.slice a2 V.length c2) (L ++ S3) V base HI.out HV0.out HE.out HBW.out hdb HDW.out (by have h3:=HDd.out;have h4:=HDL.out;omega) ⟨by rw [List.length_append];have h1:=HL.out;have h2:=HSl.out;omega⟩)
      rw [← HDD.out] at HVV
      go_wp2_with fail
      refine HVV.out.mono ?_;rintro e w4 ⟨ok4,v4,S4,rfl,hd4,hf4,hl4,hsp4⟩
      have HD4:=hid hd4
      have HSP:=hid hsp4
      have hdf4:=HDFW.out.trans hf4
      have HL4:=hid hl4
      clear hd4 hf4 hsp4 HVV hl4
      cases ok4 with
      | false =>
       have HF:=hid (HNX.out.1 HSP.out)
       go_wp2_with fail
       go_ret
       exact ⟨false,v4,S3 ++ S4,rfl,by rw [← List.append_assoc];exact HD4.out,hdf4,by rw [List.length_append];have h2:=HSl.out;have h5:=HL4.out;omega,HF.out⟩
      | true =>
       have HN:=hid (HNX.out.2 S4 HSP.out)
       go_wp2_with fail
       go_roundg (gk - 1)
       case rel=>exact ⟨m + 1,R,a3,c3,v4,S3 ++ S4,by omega,by go_num,rfl,hid HR0.out,hid (by have h3:=HDd.out;omega),hid (by rw [← List.append_assoc];exact HD4.out),⟨by rw [List.length_append];have h2:=HSl.out;have h5:=HL4.out;omega⟩,hdf4,hid (by have:=HN.out;rw [show decide (m = 0) = false by simp [hm0]] at this;rw [← HS3.out];simpa [sepD] using this)⟩
       case measure=>omega
end Go.Proofs.YtdgcamlmjmnpeaaGreatDoor
