/- What a schema that was read holds: its names are of small letters and digits, its numbers small (no walk). -/
import Derived.Test.YtdgcamlmjmnpeaaGreatDoorKEncMsg
import Derived.Test.YtdgcamlmjmnpeaaGreatDoorMEncV
namespace Go.Proofs.YtdgcamlmjmnpeaaGreatDoor
theorem runEnd_run (s:ByteArray):∀ (f k j:Nat),k ≤ j → j < runEnd s f k → runB (B s j) = true
 | 0,k,j,h1,h2=>by simp only [runEnd] at h2;omega
 | f + 1,k,j,h1,h2=>by
  unfold runEnd at h2
  by_cases h:k < s.size ∧ runB (B s k) = true
  ·rw [if_pos h] at h2
   rcases Nat.lt_or_ge k j with hk | hk
   ·exact runEnd_run s f (k + 1) j (by omega) h2
   ·rw [show j = k by omega];exact h.2
  ·rw [if_neg h] at h2;omega
theorem run_name (c:UInt8):runB (c.toNat:Int) = nameC c:=by
 have all:∀ a:Fin 256,runB ((UInt8.ofNat a.val).toNat:Int) = nameC (UInt8.ofNat a.val):=by decide +kernel
 have:=all ⟨c.toNat,c.toNat_lt⟩
 simpa using this
theorem runK_mark (c:Int):markK c ≠ 2:=by unfold markK;split <;> (try split) <;> omega
theorem Tk.letters {s:ByteArray} {t:PTok} (h:Tk s t) (h2:t.kind = 2):∀ c ∈ t.text.toList,nameC c = true:=by
 obtain ⟨i,hi,rfl⟩:=h
 unfold scanP at *
 generalize bEnd s i = k at *
 unfold scanAt at h2 ⊢
 by_cases hk:k = s.size
 ·rw [if_pos hk] at h2;simp at h2
 ·rw [if_neg hk] at h2 ⊢
  by_cases hr:runEnd s s.size k = k
  ·rw [if_pos hr] at h2;exact absurd h2 (runK_mark _)
  ·rw [if_neg hr]
   intro c hc
   simp only at hc
   rw [ext_list] at hc
   obtain ⟨q,hq,e⟩:=List.getElem_of_mem hc
   rw [List.length_take,List.length_drop] at hq
   rw [List.getElem_take,List.getElem_drop] at e
   have:=runEnd_run s s.size k (k + q) (by omega) (by omega)
   rw [← run_name,← e]
   unfold B at this
   rw [List.getD_eq_getElem?_getD,List.getElem?_eq_getElem (by omega)] at this
   exact this
def FSrc (s:ByteArray) (f:PField):Prop:=∃ t,Tk s t ∧ (fieldT s t).1 = true ∧ f = fieldV s t (numI t.text.toList)
def NSrc (s:ByteArray) (t:PTok):Prop:=Tk s t ∧ nameOk t = true
theorem fieldsT_src {s:ByteArray}:∀ (f:Nat) (t:PTok) (L:List PField),Tk s t → (∀ x ∈ L,FSrc s x) → ∀ x ∈ (fieldsT s f t L).2.2,FSrc s x
 | 0,t,L,h,hL=>hL
 | f + 1,t,L,h,hL=>by
  have hnew:(fieldT s t).1 = true → ∀ x ∈ L ++ [fieldV s t (numI t.text.toList)],FSrc s x:=fun h1 x hx=>by
   rcases List.mem_append.1 hx with hx | hx
   ·exact hL x hx
   ·rw [List.mem_singleton.1 hx];exact ⟨t,h,h1,rfl⟩
  unfold fieldsT
  by_cases h1:(fieldT s t).1 = true
  ·rw [if_pos h1]
   by_cases h5:((fieldT s t).2.kind == 5) = true
   ·rw [if_pos h5];exact hnew h1
   ·rw [if_neg h5];exact fieldsT_src f _ _ (fieldT_tk h) (hnew h1)
  ·rw [if_neg h1];exact hL
theorem namesT_src {s:ByteArray}:∀ (f:Nat) (t:PTok) (L:List PTok),Tk s t → (∀ x ∈ L,NSrc s x) → ∀ x ∈ (namesT s f t L).2.2,NSrc s x
 | 0,t,L,h,hL=>hL
 | f + 1,t,L,h,hL=>by
  have hnew:nameOk t = true → ∀ x ∈ L ++ [t],NSrc s x:=fun h1 x hx=>by
   rcases List.mem_append.1 hx with hx | hx
   ·exact hL x hx
   ·rw [List.mem_singleton.1 hx];exact ⟨h,h1⟩
  unfold namesT
  by_cases h1:nameOk t = true
  ·rw [if_pos h1]
   by_cases h5:((nextP s t).kind == 5) = true
   ·rw [if_pos h5];exact hnew h1
   ·rw [if_neg h5];exact namesT_src f _ _ h.next (hnew h1)
  ·rw [if_neg h1];exact hL
structure ISrc (s:ByteArray) (p:PItem):Prop where
 f:∀ f ∈ p.fields,FSrc s f
 n:∀ t ∈ p.names,NSrc s t
 m:NSrc s p.name
 e:p.kind = 0 ∨ p.kind = 1 ∨ 2 ≤ p.kind
theorem itemT_src {s:ByteArray} {t:PTok} (h:Tk s t) (hok:(itemT s t).1 = true):ISrc s (itemT s t).2.2:=by
 have n1:=h.next
 have n3:=h.next.next.next
 unfold itemT at hok ⊢
 by_cases e0:isWordT t wMessage = true
 ·rw [if_pos e0] at hok ⊢
  by_cases hn:nameOk (nextP s t) = true
  ·rw [if_pos hn] at hok ⊢
   unfold blockF at hok ⊢
   by_cases h4:((nextP s (nextP s t)).kind == 4) = true
   ·rw [if_pos h4]
    exact ⟨fieldsT_src _ _ _ n3 (by simp),by simp,⟨n1,hn⟩,Or.inl rfl⟩
   ·rw [if_neg h4] at hok;cases hok
  ·rw [if_neg hn] at hok;cases hok
 ·rw [if_neg e0] at hok ⊢
  by_cases e1:isWordT t wEnum = true
  ·rw [if_pos e1] at hok ⊢
   by_cases hn:nameOk (nextP s t) = true
   ·rw [if_pos hn] at hok ⊢
    unfold blockN at hok ⊢
    by_cases h4:((nextP s (nextP s t)).kind == 4) = true
    ·rw [if_pos h4]
     exact ⟨by simp,namesT_src _ _ _ n3 (by simp),⟨n1,hn⟩,Or.inr (Or.inl rfl)⟩
    ·rw [if_neg h4] at hok;cases hok
   ·rw [if_neg hn] at hok;cases hok
  ·rw [if_neg e1] at hok ⊢
   by_cases e2:isWordT t wStream = true
   ·rw [if_pos e2] at hok ⊢
    by_cases hn:nameOk (nextP s t) = true
    ·rw [if_pos hn]
     exact ⟨by simp,by simp,⟨n1,hn⟩,Or.inr (Or.inr (by simp))⟩
    ·rw [if_neg hn] at hok;cases hok
   ·rw [if_neg e2] at hok ⊢
    by_cases e3:isWordT t wCall = true
    ·rw [if_pos e3] at hok ⊢
     by_cases hn:nameOk (nextP s t) = true
     ·rw [if_pos hn] at hok ⊢
      by_cases hb:baseOk (nextP s (nextP s t)) = true
      ·rw [if_pos hb]
       exact ⟨by simp,by simp,⟨n1,hn⟩,Or.inr (Or.inr (by simp))⟩
      ·rw [if_neg hb] at hok;cases hok
     ·rw [if_neg hn] at hok;cases hok
    ·rw [if_neg e3] at hok;cases hok
theorem itemsT_src {s:ByteArray}:∀ (f:Nat) (t:PTok) (L M:List PItem),Tk s t → (itemsT s f t L).1 = some M → (∀ p ∈ L,ISrc s p) → ∀ p ∈ M,ISrc s p
 | 0,t,L,M,h,hM,_=>by simp [itemsT] at hM
 | f + 1,t,L,M,h,hM,hL=>by
  unfold itemsT at hM
  by_cases h0:(t.kind == 0) = true
  ·rw [if_pos h0] at hM
   simp only [Option.some.injEq] at hM
   subst hM;exact hL
  ·rw [if_neg h0] at hM
   by_cases h1:(itemT s t).1 = true
   ·rw [if_pos h1] at hM
    refine itemsT_src f _ _ M (itemT_tk h).1 hM (fun p hp=>?_)
    rcases List.mem_append.1 hp with hp | hp
    ·exact hL p hp
    ·rw [List.mem_singleton.1 hp];exact itemT_src h h1
   ·rw [if_neg h1] at hM;cases hM
theorem parseP_src {s:ByteArray} {M:List PItem} (h:(parseP s).1 = some M):∀ p ∈ M,ISrc s p :=
 itemsT_src (s.size + 1) (scanP s 0) [] M ⟨0,by omega,rfl⟩ h (by simp)
theorem NSrc.size {s:ByteArray} {t:PTok} (h:NSrc s t) (hs:s.size ≤ 400):1 ≤ t.text.size ∧ t.text.size ≤ 400 :=
 ⟨h.1.pos (by rw [nameOk_kind h.2];omega),by have:=h.1.sizeLe;omega⟩
theorem FSrc.num {s:ByteArray} {f:PField} (h:FSrc s f):1 ≤ f.number ∧ f.number ≤ 99:=by
 obtain ⟨t,ht,hok,rfl⟩:=h
 unfold fieldT at hok
 by_cases h3:(t.kind == 3) = true
 ·have hn:=ht.num (eq_of_beq h3)
  obtain ⟨k,h1,h2,_,h4⟩:=numB_atoi hn
  show 1 ≤ numI t.text.toList ∧ numI t.text.toList ≤ 99
  unfold numI
  rw [ByteArray.toList_eq,h4]
  simp;omega
 ·rw [if_neg h3] at hok;cases hok
theorem FSrc.name {s:ByteArray} {f:PField} (h:FSrc s f):∃ t,NSrc s t ∧ f.name = t.text:=by
 obtain ⟨t,ht,hok,rfl⟩:=h
 unfold fieldT at hok
 by_cases h3:(t.kind == 3) = true
 ·rw [if_pos h3] at hok
  by_cases hn:nameOk (nextP s t) = true
  ·exact ⟨_,⟨ht.next,hn⟩,rfl⟩
  ·rw [if_neg hn] at hok;cases hok
 ·rw [if_neg h3] at hok;cases hok
theorem FSrc.shape {s:ByteArray} {f:PField} (h:FSrc s f):f.shape ≤ 2:=by
 obtain ⟨t,ht,hok,rfl⟩:=h
 exact shapeP_le _
theorem YOk.of {s:ByteArray} {M:List PItem} {Y:List IV} (hs:s.size ≤ 400) (h:(parseP s).1 = some M) (hY:Y.map (fun y=>y.it) = M.map toR) (hok:∀ y ∈ Y,ItOk y.it 400) (hf:∀ j y,Y[j]? = some y → faultPl Y j y.it = []):YOk Y:=by
 have src:∀ y ∈ Y,∃ p,ISrc s p ∧ y.it = toR p:=fun y hy=>by
  have:y.it ∈ M.map toR:=by rw [← hY];exact List.mem_map.2 ⟨y,hy,rfl⟩
  obtain ⟨p,hp,e⟩:=List.mem_map.1 this
  exact ⟨p,parseP_src h p hp,e.symm⟩
 have fsrc:∀ y ∈ Y,∀ f ∈ y.it.fields,∃ g,FSrc s g ∧ f = toRF g:=fun y hy f hf=>by
  obtain ⟨p,hp,e⟩:=src y hy
  rw [e] at hf
  obtain ⟨g,hg,e2⟩:=List.mem_map.1 (show f ∈ p.fields.map toRF from hf)
  exact ⟨g,hp.f g hg,e2.symm⟩
 refine ⟨fun y hy f hfm=>?_,fun y hy f hfm=>?_,fun y hy f hfm=>?_,fun y hy f hfm=>?_,fun y hy=>(hok y hy).f,fun y hy=>(hok y hy).n,fun y hy t ht=>?_⟩
 ·obtain ⟨j,hj,e⟩:=List.getElem_of_mem hy
  have h1:=hf j y (by rw [List.getElem?_eq_getElem hj,e])
  obtain ⟨k,hk,e2⟩:=List.getElem_of_mem hfm
  have h2:fieldPl Y y.it.fields k = []:=by
   unfold faultPl at h1
   have h3:=(List.append_eq_nil_iff.1 (List.append_eq_nil_iff.1 (List.append_eq_nil_iff.1 h1).1).1).2
   rw [List.flatMap_eq_nil_iff] at h3
   exact h3 k (List.mem_range.2 hk)
  unfold fieldPl at h2
  rw [List.getElem?_eq_getElem hk,e2] at h2
  have h4:=(List.append_eq_nil_iff.1 h2).2
  cases ht:typeB Y f.base.toList with
  | true=>rfl
  | false=>rw [ht] at h4;simp [opt1] at h4
 ·obtain ⟨g,hg,rfl⟩:=fsrc y hy f hfm
  have:=hg.num
  exact ⟨by show 0 ≤ g.number;omega,this.2⟩
 ·obtain ⟨g,hg,rfl⟩:=fsrc y hy f hfm
  obtain ⟨t,ht,e⟩:=hg.name
  show 1 ≤ g.name.size ∧ g.name.size ≤ 400
  rw [e];exact ht.size hs
 ·obtain ⟨g,hg,rfl⟩:=fsrc y hy f hfm
  have h2:=hg.shape
  have:g.shape = 0 ∨ g.shape = 1 ∨ g.shape = 2:=by omega
  show isW (shapeTxt g.shape) wOpt = true ∨ isW (shapeTxt g.shape) wList = true ∨ (shapeTxt g.shape).toList = []
  rcases this with e | e | e <;> rw [e] <;> unfold shapeTxt isW <;> simp [ByteArray.toList_eq,emptyB]
 ·obtain ⟨p,hp,e⟩:=src y hy
  rw [e] at ht
  obtain ⟨u,hu,rfl⟩:=List.mem_map.1 (show t ∈ p.names.map PTok.text from ht)
  exact (hp.n u hu).size hs
theorem namesOk_tyR {s:ByteArray} {M:List PItem} {Y:List IV} (h:(parseP s).1 = some M) (hY:Y.map (fun y=>y.it) = M.map toR):NamesOk (tyR Y):=by
 intro b ns hb n hn c hc
 unfold tyR at hb
 cases hy:Y[(findI Y b).toNat]? with
 | none=>rw [hy] at hb;cases hb
 | some y =>
  rw [hy] at hb
  simp only at hb
  split at hb
  ·cases hb
  ·split at hb
   ·cases hb
   ·simp only [Option.some.injEq,Sum.inl.injEq] at hb
    subst hb
    have:y.it ∈ M.map toR:=by rw [← hY];exact List.mem_map.2 ⟨y,List.mem_of_getElem? hy,rfl⟩
    obtain ⟨p,hp,e⟩:=List.mem_map.1 this
    rw [← e] at hn
    obtain ⟨u,hu,rfl⟩:=List.mem_map.1 hn
    obtain ⟨v,hv,rfl⟩:=List.mem_map.1 (show u ∈ p.names.map PTok.text from hu)
    have hsrc:=(parseP_src h p hp).n v hv
    exact hsrc.1.letters (nameOk_kind hsrc.2) c hc
end Go.Proofs.YtdgcamlmjmnpeaaGreatDoor
namespace Go.Proofs.YtdgcamlmjmnpeaaGreatDoor
open Go.RowKit
structure Sound (s:ByteArray) (Y:List IV):Prop where
 size:s.size ≤ 400
 go:(goP s.size (toksOf s) [] 0).1 = some (Y.map (fun y=>y.it))
 len:Y.length ≤ 400
 ok:YOk Y
 names:NamesOk (tyR Y)
theorem RefAns.cases {s:ByteArray} {E P:Int} (h:RefAns s E P):(E = 1 ∨ E = 2 ∨ E = 3) ∨ (E = 0 ∧ s.size ≤ 400 ∧ ∃ X:List IV,(goP s.size (toksOf s) [] 0).1 = some (X.map (fun y=>y.it)) ∧ ∀ j y,X[j]? = some y → faultPl X j y.it = []):=by
 rcases h with ⟨_,e,_⟩ | ⟨hs,⟨_,e,_⟩ | ⟨X,hX,⟨i,x,_,_,_,e,_⟩ | ⟨hall,e,_⟩⟩⟩
 ·exact Or.inl (Or.inl e)
 ·exact Or.inl (Or.inr (Or.inl e))
 ·exact Or.inl (Or.inr (Or.inr e))
 ·exact Or.inr ⟨e,hs,X,hX,hall⟩
theorem Sound.of {s:ByteArray} {X Y:List IV} (hs:s.size ≤ 400) (hX:(goP s.size (toksOf s) [] 0).1 = some (X.map (fun y=>y.it))) (hall:∀ j y,X[j]? = some y → faultPl X j y.it = []) (hY:(goP s.size (toksOf s) [] 0).1 = some (Y.map (fun y=>y.it))) (hl:Y.length ≤ 400) (hok:∀ y ∈ Y,ItOk y.it 400):Sound s Y:=by
 have hq:=parse_eq s
 cases hp:(parseP s).1 with
 | none=>rw [hp] at hq;simp only at hq;rw [hq] at hX;cases hX
 | some M =>
  rw [hp] at hq
  simp only at hq
  have hYM:Y.map (fun y=>y.it) = M.map toR:=by rw [hq] at hY;simpa using hY.symm
  have hXM:X.map (fun y=>y.it) = M.map toR:=by rw [hq] at hX;simpa using hX.symm
  obtain ⟨Z,hZ⟩:∃ Z:List PIV,Z.map (fun x=>x.it) = M:=⟨M.map (fun p=>⟨p,.slice none 0 0,.slice none 0 0⟩),by rw [List.map_map];simp [Function.comp_def]⟩
  have hF:Facts s Z:=facts_of (by rw [hp,hZ])
  have tX:Twin Z X:=by unfold Twin;rw [hXM,← hZ,List.map_map];rfl
  have tY:Twin Z Y:=by unfold Twin;rw [hYM,← hZ,List.map_map];rfl
  refine ⟨hs,hY,hl,YOk.of hs hp hYM hok (fun j y hy=>?_),namesOk_tyR hp hYM⟩
  cases hc:faultPl Y j y.it with
  | nil=>rfl
  | cons a r =>
   have:PF Z a:=(fault_eq tY hF a).2 ⟨j,y,hy,by rw [hc];simp⟩
   obtain ⟨i,x,hx,hm⟩:=(fault_eq tX hF a).1 this
   rw [hall i x hx] at hm;cases hm
theorem tail_zero (v:ByteArray):tailB v 0 = v.toList:=by unfold tailB;simp
theorem But.below {w W w':World} {cb B:Nat} (h:But cb W w') (hb:Below B w W) (hc:B ≤ cb) (hB:B ≤ w.heap.size):Below B w w' :=
 ⟨h.os.trans hb.os,h.tape.trans hb.tape,h.output.trans hb.output,Nat.le_trans hb.size h.size,fun k hk=>(h.block k (Nat.lt_of_lt_of_le hk (Nat.le_trans hB hb.size)) (by omega)).trans (hb.block k hk)⟩
end Go.Proofs.YtdgcamlmjmnpeaaGreatDoor
