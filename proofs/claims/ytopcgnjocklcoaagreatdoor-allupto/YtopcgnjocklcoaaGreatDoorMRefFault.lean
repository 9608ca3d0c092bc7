/- holds of package courierref: does a message hold itself. -/
import Derived.Test.YtopcgnjocklcoaaGreatDoorMRead
namespace Go.Proofs.YtopcgnjocklcoaaGreatDoor
open Go.RowKit
theorem fflat_at (l:List RField) (k:Nat) (x:RField) (h:l[k]? = some x):((l.flatMap fieldCells).drop (k * 7)).take 7 = fieldCells x:=by
 induction l generalizing k with
 | nil=>simp at h
 | cons a r ih =>
  rw [List.flatMap_cons]
  cases k with
  | zero=>simp at h;subst h;simp [fieldCells]
  | succ k =>
   simp at h
   rw [List.drop_append,List.drop_eq_nil_of_le (by simp [fieldCells];omega),List.nil_append,show (k + 1) * 7 - (fieldCells a).length = k * 7 from by simp [fieldCells];omega]
   exact ih k h
theorem Nest.seg {w:World} {lo:Nat} {x:IV} (h:Nest w lo x) {j:Nat} {f:RField} (hj:x.it.fields[j]? = some f):∃ g c,x.vf = .slice (some ⟨g,0,none⟩) x.it.fields.length c ∧ lo ≤ g ∧ g < w.heap.size ∧ Seg w g 102 (j * 7) (fieldCells f):=by
 have hlt:j < x.it.fields.length:=by
  rcases Nat.lt_or_ge j x.it.fields.length with h | h
  ·exact h
  ·rw [List.getElem?_eq_none h] at hj;cases hj
 obtain ⟨g,c,hv,hg,hs⟩:=h.f.form (by omega)
 have ho:=h.f
 rw [hv] at ho
 have:=(own_seg ho).part (j * 7) 7 (fieldCells f) (fflat_at _ j f hj) rfl (by omega)
 exact ⟨g,c,hv,hg,hs,by simpa using this⟩
def inB (M:List ByteArray) (b:ByteArray):Bool:=M.any (fun s=>s.toList == b.toList)
def innerP (name:ByteArray):List RField → List ByteArray → Option (List ByteArray)
 | [],M=>some M
 | f :: r,M =>
  if f.kind.toList.isEmpty = false then innerP name r M
  else if (f.base.toList == name.toList) = true then none
  else if inB M f.base = true then innerP name r M else innerP name r (M ++ [f.base])
def fieldsAt (X:List IV) (i:Int):List RField:=match X[i.toNat]? with | some x=>x.it.fields | none=>[]
def outerP (X:List IV) (name:ByteArray):Nat → List ByteArray → Nat → Bool
 | 0,_,_=>false
 | f + 1,M,a =>
  match M[a]? with
  | none=>false
  | some m =>
   if findI X m.toList < 0 then outerP X name f M (a + 1)
   else match innerP name (fieldsAt X (findI X m.toList)) M with
    | none=>true
    | some M'=>outerP X name f M' (a + 1)
def univ (X:List IV) (name:ByteArray):List (List UInt8):=name.toList :: (X.flatMap fun x=>x.it.fields.map fun f=>f.base.toList)
def Good (U:List (List UInt8)) (M:List ByteArray):Prop:=(M.map ByteArray.toList).Nodup ∧ ∀ m ∈ M,m.toList ∈ U
theorem nodup_len {α:Type} [DecidableEq α]:∀ (l U:List α),l.Nodup → (∀ x ∈ l,x ∈ U) → l.length ≤ U.length
 | [],_,_,_=>by simp
 | a :: r,U,hn,hs=>by
  have hn':=List.nodup_cons.1 hn
  have ha:a ∈ U:=hs a (by simp)
  have h1:=nodup_len r (U.erase a) hn'.2 (fun x hx=>by
   have:x ≠ a:=fun e=>hn'.1 (e ▸ hx)
   exact (List.mem_erase_of_ne this).2 (hs x (by simp [hx])))
  rw [List.length_erase_of_mem ha] at h1
  have:0 < U.length:=List.length_pos_of_mem ha
  simp;omega
theorem Good.len {U:List (List UInt8)} {M:List ByteArray} (h:Good U M):M.length ≤ U.length:=by
 have:=nodup_len (M.map ByteArray.toList) U h.1 (fun x hx=>by
  obtain ⟨m,hm,rfl⟩:=List.mem_map.1 hx;exact h.2 m hm)
 simpa using this
theorem Good.push {U:List (List UInt8)} {M:List ByteArray} {b:ByteArray} (h:Good U M) (hb:b.toList ∈ U) (hn:inB M b = false):Good U (M ++ [b]):=by
 refine ⟨?_,?_⟩
 ·rw [List.map_append,List.nodup_append]
  refine ⟨h.1,by simp,?_⟩
  intro x hx y hy
  simp at hy;subst hy
  intro e;subst e
  obtain ⟨m,hm,he⟩:=List.mem_map.1 hx
  have:=List.any_eq_false.1 hn m hm
  simp [he] at this
 ·intro m hm
  rcases List.mem_append.1 hm with hm | hm
  ·exact h.2 m hm
  ·simp at hm;subst hm;exact hb
theorem univ_mem {X:List IV} {name:ByteArray} {i:Nat} {x:IV} {j:Nat} {f:RField} (hi:X[i]? = some x) (hj:x.it.fields[j]? = some f):f.base.toList ∈ univ X name:=by
 refine List.mem_cons_of_mem _ (List.mem_flatMap.2 ⟨x,List.mem_of_getElem? hi,List.mem_map.2 ⟨f,List.mem_of_getElem? hj,rfl⟩⟩)
theorem findI_lt {X:List IV} {n:List UInt8} (h:0 ≤ findI X n):∃ i:Nat,∃ x,findI X n = i ∧ X[i]? = some x:=by
 unfold findI at *
 cases hf:X.findIdx? (fun x=>matchB n x.it) with
 | none=>rw [hf] at h;simp at h
 | some i =>
  rw [List.findIdx?_eq_some_iff_getElem] at hf
  exact ⟨i,X[i]'hf.1,rfl,List.getElem?_eq_getElem hf.1⟩
end Go.Proofs.YtopcgnjocklcoaaGreatDoor
namespace Go.Proofs.YtopcgnjocklcoaaGreatDoor
open Go.RowKit
theorem grow_below {w wr w2:World} {lo:Nat} {e:TypeId} {size n:Nat} {v:Value} {xs:List Value} {o:Obj} {B:Nat} (hbel:Below B w wr) (hB:B ≤ wr.heap.size) (hown:wr.ownsRow lo e size v n xs) (hlo:B ≤ lo) (hg:(wr.alloc o).grownBy w2 v.ownBlock):Below B w w2 :=
 (hbel.alloc hB o).grown hg (by simp;omega) (fun k hk=>by have:=(hown.lt k hk).1;omega)
theorem univ_fields {X:List IV} (name:ByteArray) {x:IV} (hx:x ∈ X):x.it.fields.length < (univ X name).length:=by
 unfold univ
 rw [List.length_cons]
 have:x.it.fields.length ≤ (X.flatMap fun x=>x.it.fields.map fun f=>f.base.toList).length:=by
  induction X with
  | nil=>simp at hx
  | cons a r ih =>
   rw [List.flatMap_cons,List.length_append]
   rcases List.mem_cons.1 hx with h | h
   ·subst h;simp
   ·have:=ih h;omega
 omega
set_option maxRecDepth 100000 in
set_option maxHeartbeats 4000000 in
theorem holds_any (w:World) (lo:Nat) (lv:Value) (X:List IV) (name:ByteArray) (h:Its w lo lv X) (hX:X.length ≤ 400) (hU:(univ X name).length ≤ 1000) :
  Calls Tryz.prog 47 #[lv,.string name] w fun e w'=>e = .returned (.bool (outerP X name (univ X name).length [name] 0)) ∧ Below w.heap.size w w':=by
 obtain ⟨la,lc,hlv⟩:∃ a c,lv = .slice a X.length c:=own_slice h.own
 subst hlv
 have H:=hid h
 obtain ⟨iS,hiS,hS0,hS1,hS2⟩:=info_parts Tryz.infoStr
 clear h
 generalize hR:outerP X name (univ X name).length [name] 0 = R
 generalize hN:(univ X name).length = N at *
 have HR:=hid hR
 have HN:=hid hN
 clear hR hN
 go_enter Tryz.func47,Tryz.ntmps47
 go_wp2_with fail
 go_loopg [5,6,7,8,9,10] N (fun gk m a i k f wd wr=>∃ M at_,at_ + gk = N ∧ a = .int .i64 (at_:Nat) ∧ wr.ownsRow w.heap.size 9 1 m M.length (M.map strCell) ∧ Hid (outerP X name gk M at_ = R) ∧ Hid (Good (univ X name) M) ∧ Below w.heap.size w wr)
 case atStart =>
  refine ⟨[name],0,by omega,rfl,?_,hid HR.out,hid ⟨by simp,by simp [univ]⟩,(Below.refl _ _).alloc (Nat.le_refl _) _⟩
  exact World.ownsRow_lit w #[.string name] 1 (Nat.le_refl _) (by unfold maxLen;omega) rfl
 case round =>
  obtain ⟨M,at_,hat,rfl,hown,HO,HGd,hbel⟩:=hrel
  have hMl:M.length ≤ N:=by rw [← HN.out];exact HGd.out.len
  obtain ⟨ma,mc,hmv⟩:∃ a c,u5 = .slice a M.length c:=own_slice hown
  subst hmv
  by_cases hlt:at_ < M.length
  ·obtain ⟨m,hm⟩:∃ m,M[at_]? = some m:=⟨M[at_],List.getElem?_eq_getElem hlt⟩
   obtain ⟨g,cap,hv,hgl,hgs⟩:=own_form hown (by omega)
   obtain ⟨rfl,rfl⟩:ma = some ⟨g,0,none⟩ ∧ mc = cap:=by simpa using hv
   have c0:wr.cell? ⟨g,at_,none⟩ = some (.string m):=by
    rw [hown.cellAt at_ (by omega),List.getElem?_map,hm];rfl
   obtain ⟨gk',rfl⟩:∃ gk',gk = gk' + 1:=⟨gk - 1,by omega⟩
   have HO1:=hid (by have:=HO.out;unfold outerP at this;rw [hm] at this;simpa only [] using this)
   have HOwn:=hid hown
   clear hv hm HO hown
   go_wp2_with fail
   refine (find_any _ _ _ _ _ (H.out.same hbel) hX).mono ?_;rintro e w1 ⟨rfl,hb1⟩
   have hb2:=hbel.trans (hb1.mono hbel.size)
   have hown1:=own_same (w':=w1) HOwn.out (fun gg hg=>hb1.block gg (HOwn.out.lt gg hg).2)
   clear HOwn c0 hbel
   by_cases hneg:findI X m.toList < 0
   ·have HO2:=hid (by have:=HO1.out;rw [if_pos hneg] at this;exact this)
    generalize findI X m.toList = fi at *
    go_wp2_with fail
    go_roundg gk'
    case rel=>exact ⟨M,at_ + 1,by omega,by go_num,hown1,HO2,HGd,hb2⟩
    case measure=>omega
   ·have HO2:=hid (by have:=HO1.out;rw [if_neg hneg] at this;exact this)
    obtain ⟨fi,x,hfi,hx⟩:=findI_lt (show 0 ≤ findI X m.toList by omega)
    have HFA:=hid (show fieldsAt X (findI X m.toList) = x.it.fields by rw [hfi];simp [fieldsAt,hx])
    rw [hfi] at hneg
    rw [hfi]
    have hfx:fi < X.length:=by
     rcases Nat.lt_or_ge fi X.length with h | h
     ·exact h
     ·rw [List.getElem?_eq_none h] at hx;cases hx
    obtain ⟨lg,lcap,hlvv,hlgl,hlgs⟩:=own_form H.out.own (by omega)
    obtain ⟨rfl,rfl⟩:la = some ⟨lg,0,none⟩ ∧ lc = lcap:=by simpa using hlvv
    have HX:=hid hx
    clear hx hfi hlvv hneg
    obtain ⟨va,vc,hvf⟩:∃ a c,x.vf = .slice a x.it.fields.length c:=own_slice (H.out.nest x (List.mem_of_getElem? HX.out)).f
    obtain ⟨it,vf,vn,vna,vb,vba⟩:=x
    simp only at hvf
    subst hvf
    have HO3:=hid (by have:=HO2.out;rw [HFA.out] at this;exact this)
    clear HO2 HO1 HFA
    go_wp2_with fail
    go_loopg [5,8,9,10] it.fields.length (fun g2 m k f wd wr=>∃ j M',j + g2 = it.fields.length ∧ k = .int .i64 (j:Nat) ∧ wr.ownsRow w.heap.size 9 1 m M'.length (M'.map strCell) ∧ Hid (innerP name it.fields M = innerP name (it.fields.drop j) M') ∧ Hid (Good (univ X name) M') ∧ Below w.heap.size w wr)
    case atStart=>exact ⟨0,M,by omega,rfl,hown1,hid rfl,HGd,hb2⟩
    case round =>
     obtain ⟨j,M',hj,rfl,hown2,HI,HGd2,hbel2⟩:=hrel
     have hMl2:M'.length ≤ N:=by rw [← HN.out];exact HGd2.out.len
     obtain ⟨ma2,mc2,hmv⟩:∃ a c,u5 = .slice a M'.length c:=own_slice hown2
     subst hmv
     have hits:=H.out.same hbel2
     have hs:=hits.seg HX.out
     have c3:wr.cell? ⟨lg,fi * 8 + 3,none⟩ = some (.slice va it.fields.length vc):=hs.cell (j:=3) rfl
     have hfl:it.fields.length ≤ 1000:=by
      have h1:=univ_fields name (List.mem_of_getElem? HX.out)
      rw [HN.out] at h1
      have h2:it.fields.length < N:=h1
      omega
     clear hown1 hMl hb1 hb2
     by_cases hjl:j < it.fields.length
     ·obtain ⟨f,hf⟩:∃ f,it.fields[j]? = some f:=⟨it.fields[j],List.getElem?_eq_getElem hjl⟩
      have HD:=hid (show it.fields.drop j = f :: it.fields.drop (j + 1) by
       rw [List.drop_eq_getElem_cons hjl];rw [List.getElem?_eq_getElem hjl] at hf;simp at hf;rw [hf])
      obtain ⟨fg,fc,hfv,hfl1,hfl2,hfs⟩:=(hits.nest _ (List.mem_of_getElem? HX.out)).seg hf
      obtain ⟨rfl,rfl⟩:va = some ⟨fg,0,none⟩ ∧ vc = fc:=by simpa using hfv
      have HUM:=hid (univ_mem (name:=name) HX.out hf)
      clear hfv hf hits hs
      obtain ⟨fnum,fname,fkind,fbase,fna,fnma,fba⟩:=f
      have e0:wr.cell? ⟨fg,j * 7,none⟩ = some (.int .i64 fnum):=hfs.cell (j:=0) rfl
      have e1:wr.cell? ⟨fg,j * 7 + 1,none⟩ = some (.string fname):=hfs.cell (j:=1) rfl
      have e2:wr.cell? ⟨fg,j * 7 + 2,none⟩ = some (.string fkind):=hfs.cell (j:=2) rfl
      have e3:wr.cell? ⟨fg,j * 7 + 3,none⟩ = some (.string fbase):=hfs.cell (j:=3) rfl
      have e4:wr.cell? ⟨fg,j * 7 + 4,none⟩ = some (.int .i64 fna):=hfs.cell (j:=4) rfl
      have e5:wr.cell? ⟨fg,j * 7 + 5,none⟩ = some (.int .i64 fnma):=hfs.cell (j:=5) rfl
      have e6:wr.cell? ⟨fg,j * 7 + 6,none⟩ = some (.int .i64 fba):=hfs.cell (j:=6) rfl
      have HOw:=hid hown2
      clear hfs hown2
      cases hkd:fkind.toList.isEmpty with
      | false =>
       have HI2:=hid (show innerP name it.fields M = innerP name (it.fields.drop (j + 1)) M' by rw [HI.out,HD.out];simp only [innerP,hkd,if_true])
       go_wp2_with fail
       go_roundg (gk - 1)
       case rel=>exact ⟨j + 1,M',by omega,by go_num,HOw.out.alloc _,HI2,HGd2,hbel2.alloc hbel2.size _⟩
       case measure=>omega
      | true =>
       cases hbn:(fbase.toList == name.toList) with
       | true =>
        have HRt:=hid (show true = R by
         have:=HO3.out;rw [HI.out,HD.out] at this;simpa only [innerP,hkd,hbn,if_true,if_false,Bool.true_eq_false] using this)
        go_wp2_with fail
        go_ret
        exact ⟨ret_bool HRt.out,hbel2.alloc hbel2.size _⟩
       | false =>
        go_wp2_with fail
        refine (within_any _ w.heap.size _ M' fbase (HOw.out.alloc _) (by omega)).mono ?_;rintro e w3 ⟨rfl,rfl⟩
        cases hib:M'.any (fun s=>s.toList == fbase.toList) with
        | true =>
         have HI2:=hid (show innerP name it.fields M = innerP name (it.fields.drop (j + 1)) M' by rw [HI.out,HD.out];simp only [innerP,hkd,hbn,inB,hib,if_true,if_false,Bool.true_eq_false,Bool.false_eq_true])
         go_wp2_with fail
         go_roundg (gk - 1)
         case rel=>exact ⟨j + 1,M',by omega,by go_num,HOw.out.alloc _,HI2,HGd2,hbel2.alloc hbel2.size _⟩
         case measure=>omega
        | false =>
         have HI2:=hid (show innerP name it.fields M = innerP name (it.fields.drop (j + 1)) (M' ++ [fbase]) by rw [HI.out,HD.out];simp only [innerP,hkd,hbn,inB,hib,if_false,Bool.true_eq_false,Bool.false_eq_true])
         have HGd3:=hid (HGd2.out.push HUM.out hib)
         go_wp2_with (at_builtin;refine wpList_append_lies _ rfl _ _ 94 rfl w.heap.size 9 iS _ 1 16 Tryz.underlying94 hiS hS0 hS1 hS2 rfl (by decide) _ _ _ rfl ((HOw.out.alloc _).alloc _) ⟨_,0,none⟩ 1 1 [strCell fbase] rfl rfl (cells_new_at _ _ (by simp) #[.string fbase] _) (by simp [strCell,Value.oneCell']) (by omega) (by unfold maxLen;omega) (by omega) (by have:=hbel2.size;simp;omega) _ rfl ?_)
         intro g5 cp5 w5 hown5 hgrow5 _ _
         have hb5:=grow_below (hbel2.alloc hbel2.size _) (by have:=hbel2.size;simp;omega) (HOw.out.alloc _) (Nat.le_refl _) hgrow5
         clear hgrow5
         go_wp2_with fail
         go_roundg (gk - 1)
         case rel=>exact ⟨j + 1,M' ++ [fbase],by omega,by go_num,by simpa using hown5,HI2,HGd3,hb5⟩
         case measure=>omega
     ·have HO4:=hid (show outerP X name gk' M' (at_ + 1) = R by
       have:=HO3.out;rw [HI.out,List.drop_eq_nil_of_le (by omega)] at this;simpa only [innerP] using this)
      have HOw:=hid hown2
      clear hits hs hown2
      go_wp2_with fail
      go_roundg gk'
      case rel=>exact ⟨M',at_ + 1,by omega,by go_num,HOw.out,HO4,HGd2,hbel2⟩
      case measure=>omega
  ·have HRf:=hid (show false = R by
    have:=HO.out
    cases gk with
    | zero=>simpa only [outerP] using this
    | succ gk=>unfold outerP at this;rw [List.getElem?_eq_none (by omega)] at this;simpa only [] using this)
   go_wp2_with fail
   go_ret
   exact ⟨ret_bool HRf.out,hbel⟩
end Go.Proofs.YtopcgnjocklcoaaGreatDoor
namespace Go.Proofs.YtopcgnjocklcoaaGreatDoor
open Go.RowKit
def leastL (l:List Nat):Int:=l.foldl (fun p (a:Nat)=>leastI p a) (-1)
theorem leastL_snoc (l:List Nat) (a:Nat):leastL (l ++ [a]) = leastI (leastL l) a:=by simp [leastL]
theorem leastI_again (p:Int) (a:Nat):leastI (leastI p a) a = leastI p a:=by
 unfold leastI
 by_cases h:p < 0 ∨ 0 ≤ (a:Int) ∧ (a:Int) < p
 ·rw [if_pos h];simp
 ·rw [if_neg h,if_neg h]
def dupB (X:List IV) (k:Nat) (it:RItem):Bool:=(X.take k).any (fun y=>(y.it.name.toList == it.name.toList) && (typeWord it.kind.toList == typeWord y.it.kind.toList))
def holdsB (X:List IV) (name:ByteArray):Bool:=outerP X name (univ X name).length [name] 0
def opt1 (b:Bool) (a:Nat):List Nat:=if b then [a] else []
def numF (fs:List RField) (k:Nat):Bool:=match fs[k]?,fs[k - 1]? with | some f,some g=>decide (0 < k) && decide (f.number ≤ g.number) | _,_=>false
def nameF (fs:List RField) (k j:Nat):Bool:=match fs[k]? with | some f=>(fs.take j).any (fun g=>g.name.toList == f.name.toList) | none=>false
def fieldPl (X:List IV) (fs:List RField) (k:Nat):List Nat :=
 match fs[k]? with
 | some f=>opt1 (numF fs k) f.numberAt ++ opt1 (nameF fs k k) f.nameAt ++ opt1 (!typeB X f.base.toList) f.baseAt
 | none=>[]
def nameN (ns:List ByteArray) (k j:Nat):Bool:=match ns[k]? with | some n=>(ns.take j).any (fun g=>g.toList == n.toList) | none=>false
def namePl (ns:List ByteArray) (ps:List Nat) (k:Nat):List Nat:=match ps[k]? with | some p=>opt1 (nameN ns k k) p | none=>[]
def basePl (X:List IV) (bs:List ByteArray) (ps:List Nat) (k:Nat):List Nat:=match bs[k]?,ps[k]? with | some b,some p=>opt1 (!typeB X b.toList) p | _,_=>[]
def headPl (X:List IV) (i:Nat) (it:RItem):List Nat:=opt1 (dupB X i it) it.nameAt ++ opt1 ((it.kind.toList == [109,101,115,115,97,103,101]) && holdsB X it.name) it.nameAt
def faultPl (X:List IV) (i:Nat) (it:RItem):List Nat :=
 headPl X i it ++ (List.range it.fields.length).flatMap (fieldPl X it.fields) ++ (List.range it.names.length).flatMap (namePl it.names it.namesAt) ++ (List.range it.bases.length).flatMap (basePl X it.bases it.basesAt)
theorem range_snoc (n:Nat) (f:Nat → List Nat):(List.range (n + 1)).flatMap f = (List.range n).flatMap f ++ f n:=by
 rw [List.range_succ,List.flatMap_append];simp
theorem dupB_zero (X:List IV) (it:RItem):dupB X 0 it = false:=by simp [dupB]
theorem dupB_succ {X:List IV} {k:Nat} {y:IV} (it:RItem) (h:X[k]? = some y):dupB X (k + 1) it = (dupB X k it || ((y.it.name.toList == it.name.toList) && (typeWord it.kind.toList == typeWord y.it.kind.toList))):=by
 unfold dupB
 rw [List.take_add_one,h];simp
theorem nameF_succ {fs:List RField} {k j:Nat} {f g:RField} (hk:fs[k]? = some f) (hj:fs[j]? = some g):nameF fs k (j + 1) = (nameF fs k j || (g.name.toList == f.name.toList)):=by
 unfold nameF;rw [hk];simp only
 rw [List.take_add_one,hj];simp
theorem nameN_succ {fs:List ByteArray} {k j:Nat} {f g:ByteArray} (hk:fs[k]? = some f) (hj:fs[j]? = some g):nameN fs k (j + 1) = (nameN fs k j || (g.toList == f.toList)):=by
 unfold nameN;rw [hk];simp only
 rw [List.take_add_one,hj];simp
theorem least_opt (l:List Nat) (b c:Bool) (a:Nat):leastL (l ++ opt1 (b || c) a) = if c then leastI (leastL (l ++ opt1 b a)) a else leastL (l ++ opt1 b a):=by
 cases b <;> cases c <;> simp [opt1,leastL_snoc,leastI_again]
theorem least_one (l:List Nat) (c:Bool) (a:Nat):leastL (l ++ opt1 c a) = if c then leastI (leastL l) a else leastL l:=by
 cases c <;> simp [opt1,leastL_snoc]
theorem numF_zero (fs:List RField):numF fs 0 = false:=by unfold numF;split <;> simp
theorem numF_succ {fs:List RField} {q:Nat} {f g:RField} (h:fs[q + 1]? = some f) (h2:fs[q]? = some g):numF fs (q + 1) = decide (f.number ≤ g.number):=by
 unfold numF;rw [h,show q + 1 - 1 = q from by omega,h2];simp
theorem str_row {w:World} {lo:Nat} {v:Value} {X:List ByteArray} (h:w.ownsRow lo 9 1 v X.length (X.map strCell)) (hp:0 < X.length):∃ g c,v = .slice (some ⟨g,0,none⟩) X.length c ∧ g < w.heap.size ∧ ∀ k s,X[k]? = some s → w.cell? ⟨g,k,none⟩ = some (.string s):=by
 obtain ⟨g,c,hv,_,hg⟩:=h.form hp
 subst hv
 refine ⟨g,c,rfl,hg,fun k s hk=>?_⟩
 have hlt:k < X.length:=by
  rcases Nat.lt_or_ge k X.length with h | h
  ·exact h
  ·rw [List.getElem?_eq_none h] at hk;cases hk
 rw [h.cellAt k (by omega),List.getElem?_map,hk];rfl
theorem nat_row {w:World} {lo:Nat} {v:Value} {X:List Nat} (h:w.ownsRow lo 3 1 v X.length (X.map natCell)) (hp:0 < X.length):∃ g c,v = .slice (some ⟨g,0,none⟩) X.length c ∧ g < w.heap.size ∧ ∀ (k s:Nat),X[k]? = some s → w.cell? ⟨g,k,none⟩ = some (.int .i64 s):=by
 obtain ⟨g,c,hv,_,hg⟩:=h.form hp
 subst hv
 refine ⟨g,c,rfl,hg,fun k s hk=>?_⟩
 have hlt:k < X.length:=by
  rcases Nat.lt_or_ge k X.length with h | h
  ·exact h
  ·rw [List.getElem?_eq_none h] at hk;cases hk
 rw [h.cellAt k (by omega),List.getElem?_map,hk];rfl
theorem later_cell {w w':World} {a:Addr} {v:Value} (hb:Below w.heap.size w w') (h:w.cell? a = some v) (hlt:a.block < w.heap.size):w'.cell? a = some v:=(hb.cell hlt).trans h
end Go.Proofs.YtopcgnjocklcoaaGreatDoor
