/- 'own': a list is made its owner's. -/
import Derived.Test.YtopcgnjocklcoaaGreatDoorMFrA
import Derived.Test.YtopcgnjocklcoaaGreatDoorMFrB
import Derived.Lib.AppendStr
import Derived.Lib.ConvBytes
namespace Go.Proofs.YtopcgnjocklcoaaGreatDoor
open Go.RowKit
theorem fill_set (L:List UInt8) (m:UInt8) (k:Nat) (hk:k < L.length):(List.replicate k m ++ L.drop k).set k m = List.replicate (k + 1) m ++ L.drop (k + 1):=by
 rw [List.set_append_right _ _ (by simp),List.length_replicate,Nat.sub_self,List.drop_eq_getElem_cons hk,List.set_cons_zero,List.replicate_succ',List.append_assoc]
 rfl
theorem fill_len (L:List UInt8) (m:UInt8) (k:Nat) (hk:k ≤ L.length):(List.replicate k m ++ L.drop k).length = L.length:=by simp;omega
theorem five_at (w:World) (u0 u1 u2 u3 u4:Value) (T:TypeId):∀ j u,[u0,u1,u2,u3,u4][j]? = some u → (w.alloc (.cells #[u0,u1,u2,u3,u4] T)).cell? ((⟨w.heap.size,0,none⟩:Addr).add j) = some u:=by
 intro j u hj
 rw [rd_add _ _ rfl,cell_row (heap_alloc_new w _)]
 simpa using hj
theorem five_one {a0 a1 a2 a3:Option Addr} {n0 n1 n2 n3 c0 c1 c2 c3:Nat} {z:Int}:∀ u ∈ [Value.slice a0 n0 c0,.slice a1 n1 c1,.slice a2 n2 c2,.slice a3 n3 c3,.int .u8 z],u.oneCell' = true:=fun u hu=>by
 simp only [List.mem_cons,List.not_mem_nil,or_false] at hu
 rcases hu with rfl | rfl | rfl | rfl | rfl <;> rfl
def OwnPost (w:World) (B lo:Nat) (dv ev bv lv:Value) (X:List Ent) (e:Ending) (w':World):Prop :=
 e = .returned (.tuple #[]) ∧ ∃ bv' x,WAt w' B dv ev bv' ∧ Ents w' lo bv' (X ++ [x]) ∧ Turn w w' (fun k=>k = B ∨ bv.ownBlock = some k ∨ lv.ownBlock = some k) ∧
  (∀ k,bv'.ownBlock = some k → bv.ownBlock = some k ∨ w.heap.size ≤ k) ∧ ∀ u ∈ entVals x,∀ k,u.ownBlock = some k → lv.ownBlock = some k ∨ w.heap.size ≤ k
set_option maxRecDepth 100000 in
set_option maxHeartbeats 4000000 in
theorem own_any (w:World) (B lo lo2:Nat) (dv ev bv lv:Value) (X:List Ent) (L:List UInt8) (hW:WAt w B dv ev bv) (hX:Ents w lo bv X) (hL:Bys w lo2 lv L) (hn:X.length ≤ 100000000) (hl:L.length ≤ 1000000000) (hlo:lo ≤ w.heap.size) (hlo2:lo2 ≤ w.heap.size)
  (hap:∀ x ∈ X,∀ u ∈ entVals x,∀ k,u.ownBlock = some k → lv.ownBlock ≠ some k) :
  Calls Tryz.prog 15 #[.pointer (some ⟨B,0,none⟩),lv] w (OwnPost w B lo dv ev bv lv X):=by
 obtain ⟨ba,bc,rfl⟩:=own_slice hX.own
 obtain ⟨la,lc,rfl⟩:=own_slice hL
 have hB:B < w.heap.size:=(Array.getElem?_eq_some_iff.1 hW).1
 have hc2:w.cell? ⟨B,2,none⟩ = some (.slice ba X.length bc):=by rw [cell_row hW];rfl
 obtain ⟨m,hm⟩:∃ m:UInt8,(m.toNat:Int) = (X.length:Int) % 251:=⟨(X.length % 251).toUInt8,by simp [Nat.toUInt8,UInt8.toNat_ofNat'];omega⟩
 have HM:=hid hm
 have HX:=hid hX
 have HL:=hid hL
 have HW:=hid hW
 have HAP:=hid hap
 clear hX hW hL hap hm
 go_enter Tryz.func15,Tryz.ntmps15
 go_wp2_with fail
 rw [← HM.out]
 go_loopg [5] L.length (fun gk i wr=>∃ k:Nat,k + gk = L.length ∧ i = .int .i64 k ∧ Hid (Bys wr lo2 (.slice la L.length lc) (List.replicate k m ++ L.drop k)) ∧ Hid (Turn w wr (fun q=>(Value.slice la L.length lc).ownBlock = some q)))
 case atStart=>exact ⟨0,by omega,rfl,hid (by simpa using HL.out),hid (Turn.refl _ _)⟩
 case round =>
  obtain ⟨k,hk,rfl,HBr,HTr⟩:=hrel
  by_cases hlt:k < L.length
  ·have hltI:(k:Int) < (L.length:Int):=by omega
   obtain ⟨b,o,c',hv,hb,hc⟩:=HBr.out.rd.at (by simp;omega)
   rw [fill_len L m k (by omega)] at hv
   obtain ⟨g,hg0⟩:∃ g,la = some ⟨g,0,none⟩:=by
    rcases HBr.out.2 with ⟨_,e⟩ | ⟨g,cap,cur,hv,_⟩
    ·rw [fill_len L m k (by omega)] at e;omega
    ·simp at hv;exact ⟨g,hv.1⟩
   subst hg0
   obtain ⟨⟨rfl,rfl⟩,rfl⟩:(g = b ∧ 0 = o) ∧ lc = c':=by simpa using hv
   obtain ⟨old,hck⟩:∃ old:Int,wr.cell? ⟨g,k,none⟩ = some (.int .u8 old):=⟨_,by have:=hc k (by rw [fill_len L m k (by omega)];omega);rwa [Nat.zero_add] at this⟩
   obtain ⟨cur,hcur⟩:=own_type HBr.out (g:=g) rfl
   have hfk:wr.frozen? ⟨g,k,none⟩ = false:=frozen_row hcur _
   have HB2:=hid (show Bys (wr.setCell ⟨g,k,none⟩ (.int .u8 m.toNat)) lo2 (.slice (some ⟨g,0,none⟩) L.length lc) (List.replicate (k + 1) m ++ L.drop (k + 1)) from by
    have h1:Bys wr lo2 (.slice (some ⟨g,0,none⟩) (List.replicate k m ++ L.drop k).length lc) (List.replicate k m ++ L.drop k):=by rw [fill_len L m k (by omega)];exact HBr.out
    have h2:=h1.put k m
    rw [fill_set L m k hlt,fill_len L m (k + 1) (by omega)] at h2
    exact h2)
   have HT2:=hid (show Turn w (wr.setCell ⟨g,k,none⟩ (.int .u8 m.toNat)) (fun q=>(Value.slice (some ⟨g,0,none⟩) L.length lc).ownBlock = some q) from HTr.out.trans (Turn.setCell wr g k _) (fun q _ h=>by rw [h];rfl))
   clear hc hv hcur
   go_wp2_with fail
   go_roundg (gk - 1)
   case rel=>exact ⟨k + 1,by omega,by go_num,HB2,HT2⟩
   case measure=>omega
  ·have hltI:¬ (k:Int) < (L.length:Int):=by omega
   obtain rfl:k = L.length:=by omega
   have HBn:=hid (show Bys wr lo2 (.slice la L.length lc) (List.replicate L.length m) from by have:=HBr.out;rwa [List.drop_length,List.append_nil] at this)
   obtain ⟨w1,hw1⟩:∃ w1,w1 = wr:=⟨_,rfl⟩
   subst hw1
   obtain ⟨n,HNn⟩:∃ n,Hid (L.length = n):=⟨_,hid rfl⟩
   have hz1:=HTr.out.size
   have hnl:n ≤ 1000000000:=by rw [← HNn.out];exact hl
   rw [HNn.out] at HBn ⊢
   have hc2r:(Value.slice la n lc).ownBlock ≠ some B:=fun e=>by
    obtain ⟨cur,hcur⟩:=own_type HL.out (g:=B) (by rw [HNn.out];exact e)
    rw [HW.out] at hcur
    simp at hcur
   have hbne:∀ q,(Value.slice ba X.length bc).ownBlock = some q → (Value.slice la n lc).ownBlock ≠ some q:=fun q hq e=>own_ne HX.out.own HL.out (by decide) hq (by rw [HNn.out];exact e) rfl
   have HLB:=hid hc2r
   have HBN:=hid hbne
   have HTw:Hid (Turn w w1 (fun q=>(Value.slice la n lc).ownBlock = some q)):=by have:=HTr.out;rw [HNn.out] at this;exact this
   clear hc2r hbne HTr HBr
   go_wp2_with (at_builtin;refine wpList_append_fill _ rfl (.tmp 26) (.tmp 28) rfl _ n 1 m lo2 rfl (HBn.out.same ((Below.refl _ _).alloc (Nat.le_refl _) _)) (by decide) _ 1 rfl (fun j u hu=>(bys_lit _ (List.replicate 1 m) _ rfl (by simp)).cells (g:=w1.heap.size) rfl j u hu) (by omega) (by simp;omega) (n + 1) rfl ?_)
   intro a1 c1 w2 hb2 hk2 hl2 hg2
   have HT2:=hid (show Turn w w2 (fun q=>(Value.slice la n lc).ownBlock = some q) from (HTw.out.trans (Turn.of_below (S:=fun _=>False) ((Below.refl _ _).alloc (Nat.le_refl _) _)) (fun _ _ h=>h.elim)).trans (Turn.of_grew hg2) (fun q _ h=>h))
   have HL2:=hid hl2
   have HO2:=hid hb2.rd
   have HN2:=hid (show ∀ q,(Value.slice a1 (n + 1) c1).ownBlock = some q → (Value.slice la n lc).ownBlock = some q ∨ w.heap.size ≤ q from fun q hq=>(hg2.b q hq).imp id (fun h=>by simp at h;omega))
   have hz2:=HT2.out.size
   have HK2:=hid (fun q (hq:(Value.slice a1 (n + 1) c1).ownBlock = some q)=>own_type hb2 hq)
   have HKl2:=hid (fun q (hq:(Value.slice la n lc).ownBlock = some q)=>own_type hl2 hq)
   have HD2:=hid (show Turn w1 w2 (fun q=>(Value.slice la n lc).ownBlock = some q) from (Turn.of_below (S:=fun q=>(Value.slice la n lc).ownBlock = some q) ((Below.refl _ _).alloc (Nat.le_refl _) _)).trans (Turn.of_grew hg2) (fun q _ h=>h))
   clear hb2 hk2 hl2 hg2
   go_wp2_with (at_builtin;refine wpList_append_fill _ rfl (.tmp 30) (.tmp 33) rfl _ n 2 m lo2 rfl (HL2.out.same ((Below.refl _ _).alloc (Nat.le_refl _) _)) (by decide) _ 2 rfl (fun j u hu=>(bys_lit _ (List.replicate 2 m) _ rfl (by simp)).cells (g:=w2.heap.size) rfl j u hu) (by omega) (by simp;omega) (n + 2) rfl ?_)
   intro a2 c2 w3 hb3 hk3 hl3 hg3
   have HT3:=hid (show Turn w w3 (fun q=>(Value.slice la n lc).ownBlock = some q) from (HT2.out.trans (Turn.of_below (S:=fun _=>False) ((Below.refl _ _).alloc (Nat.le_refl _) _)) (fun _ _ h=>h.elim)).trans (Turn.of_grew hg3) (fun q _ h=>h))
   have HL3:=hid hl3
   have HO3:=hid ((HO2.out.later ((Below.refl _ _).alloc (Nat.le_refl _) _)).keep hk3)
   have HP3:=hid hb3.rd
   have HN3:=hid (show ∀ q,(Value.slice a2 (n + 2) c2).ownBlock = some q → (Value.slice la n lc).ownBlock = some q ∨ w.heap.size ≤ q from fun q hq=>(hg3.b q hq).imp id (fun h=>by simp at h;omega))
   have hz3:=HT3.out.size
   have HK3:=hid (fun q (hq:(Value.slice a2 (n + 2) c2).ownBlock = some q)=>own_type hb3 hq)
   have HKl3:=hid (fun q (hq:(Value.slice la n lc).ownBlock = some q)=>own_type hl3 hq)
   have HD3:=hid (show Turn w2 w3 (fun q=>(Value.slice la n lc).ownBlock = some q) from (Turn.of_below (S:=fun q=>(Value.slice la n lc).ownBlock = some q) ((Below.refl _ _).alloc (Nat.le_refl _) _)).trans (Turn.of_grew hg3) (fun q _ h=>h))
   clear hb3 hk3 hl3 hg3
   go_wp2_with (at_builtin;refine wpList_append_fill _ rfl (.tmp 35) (.tmp 39) rfl _ n 3 m lo2 rfl (HL3.out.same ((Below.refl _ _).alloc (Nat.le_refl _) _)) (by decide) _ 3 rfl (fun j u hu=>(bys_lit _ (List.replicate 3 m) _ rfl (by simp)).cells (g:=w3.heap.size) rfl j u hu) (by omega) (by simp;omega) (n + 3) rfl ?_)
   intro a3 c3 w4 hb4 hk4 hl4 hg4
   have HT4:=hid (show Turn w w4 (fun q=>(Value.slice la n lc).ownBlock = some q) from (HT3.out.trans (Turn.of_below (S:=fun _=>False) ((Below.refl _ _).alloc (Nat.le_refl _) _)) (fun _ _ h=>h.elim)).trans (Turn.of_grew hg4) (fun q _ h=>h))
   have HL4:=hid hl4.rd
   have HO4:=hid ((HO3.out.later ((Below.refl _ _).alloc (Nat.le_refl _) _)).keep hk4)
   have HP4:=hid ((HP3.out.later ((Below.refl _ _).alloc (Nat.le_refl _) _)).keep hk4)
   have HQ4:=hid hb4.rd
   have HN4:=hid (show ∀ q,(Value.slice a3 (n + 3) c3).ownBlock = some q → (Value.slice la n lc).ownBlock = some q ∨ w.heap.size ≤ q from fun q hq=>(hg4.b q hq).imp id (fun h=>by simp at h;omega))
   have hz4:=HT4.out.size
   have HK4:=hid (fun q (hq:(Value.slice a3 (n + 3) c3).ownBlock = some q)=>own_type hb4 hq)
   have HKl4:=hid (fun q (hq:(Value.slice la n lc).ownBlock = some q)=>own_type hl4 hq)
   have HD4:=hid (show Turn w3 w4 (fun q=>(Value.slice la n lc).ownBlock = some q) from (Turn.of_below (S:=fun q=>(Value.slice la n lc).ownBlock = some q) ((Below.refl _ _).alloc (Nat.le_refl _) _)).trans (Turn.of_grew hg4) (fun q _ h=>h))
   clear hb4 hk4 hl4 hg4
   have hW4:w4.heap[B]? = some (.cells #[dv,ev,.slice ba X.length bc] 31 (0,0)):=(HT4.out.block B hB HLB.out).trans HW.out
   have hX4:w4.ownsRow lo 54 5 (.slice ba X.length bc) X.length (X.flatMap entCells):=own_same HX.out.own (fun q hq=>HT4.out.block q (HX.out.own.lt q hq).2 (HBN.out q hq))
   have hc4:w4.cell? ⟨B,2,none⟩ = some (.slice ba X.length bc):=by rw [cell_row hW4];rfl
   have HW4:=hid hW4
   have HX4:=hid hX4
   clear hW4 hX4
   go_wp2_with (at_builtin;refine wpList_append_gen _ rfl (.tmp 45) (.tmp 52) 29 54 _ 5 104 rfl Tryz.underlying29 Tryz.infoEnt rfl (by decide) _ X.length _ lo rfl (World.ownsRow.alloc HX4.out _) _ 1 1 [.slice la n lc,.slice a1 (n + 1) c1,.slice a2 (n + 2) c2,.slice a3 (n + 3) c3,.int .u8 m.toNat] rfl rfl (five_at _ _ _ _ _ _ _) five_one (X.length + 1) rfl _ rfl (by unfold maxLen;omega) (by omega) (by simp;omega) ?_)
   intro a5 c5 w5 ho5 hg5
   have hbB:(Value.slice ba X.length bc).ownBlock ≠ some B:=fun e=>by
    obtain ⟨cur,hcur⟩:=own_type HX.out.own e
    rw [HW.out] at hcur
    simp at hcur
   have hB4:B < w4.heap.size:=by omega
   have hW5:w5.heap[B]? = some (.cells #[dv,ev,.slice ba X.length bc] 31 (0,0)):=(hg5.g.block B (by simp;omega) (fun e=>hbB e.symm)).trans ((Below.heap_alloc w4 _ B hB4).trans HW4.out)
   have hc5:w5.cell? ⟨B,2,none⟩ = some (.slice ba X.length bc):=by rw [cell_row hW5];rfl
   have hf5:w5.frozen? ⟨B,2,none⟩ = false:=frozen_row hW5 _
   have hT45:Turn w4 w5 (fun q=>(Value.slice ba X.length bc).ownBlock = some q):=(Turn.of_below (S:=fun q=>(Value.slice ba X.length bc).ownBlock = some q) ((Below.refl _ _).alloc (Nat.le_refl _) _)).trans (Turn.of_grew hg5) (fun q _ h=>h)
   have ha5:∀ k,(Value.slice a5 (X.length + 1) c5).ownBlock = some k → (Value.slice ba X.length bc).ownBlock = some k ∨ w.heap.size ≤ k:=fun k hk=>(hg5.b k hk).imp id (fun h=>by simp at h;omega)
   have HF:=hid (show OwnPost w B lo dv ev (.slice ba X.length bc) (.slice la L.length lc) X (.returned (.tuple #[])) (w5.setCell ⟨B,2,none⟩ (.slice a5 (X.length + 1) c5)) from by
    rw [HNn.out]
    have hT56:=Turn.setCell w5 B 2 (.slice a5 (X.length + 1) c5)
    have hT:Turn w (w5.setCell ⟨B,2,none⟩ (.slice a5 (X.length + 1) c5)) (fun k=>k = B ∨ (Value.slice ba X.length bc).ownBlock = some k ∨ (Value.slice la n lc).ownBlock = some k) :=
     (((HT4.out.weak (fun k h=>Or.inr (Or.inr h))).trans hT45 (fun q _ h=>Or.inr (Or.inl h)))).trans hT56 (fun q _ h=>Or.inl h)
    have hT46:Turn w4 (w5.setCell ⟨B,2,none⟩ (.slice a5 (X.length + 1) c5)) (fun k=>k = B ∨ (Value.slice ba X.length bc).ownBlock = some k):=(hT45.weak (fun k h=>Or.inr h)).trans hT56 (fun q _ h=>Or.inl h)
    refine ⟨rfl,.slice a5 (X.length + 1) c5,⟨.slice la n lc,.slice a1 (n + 1) c1,.slice a2 (n + 2) c2,.slice a3 (n + 3) c3,n,m⟩,?_,⟨?_,?_⟩,hT,ha5,?_⟩
    ·show (w5.setCell ⟨B,2,none⟩ (.slice a5 (X.length + 1) c5)).heap[B]? = _
     rw [heap_setCell_same w5 B 2 _ _ _ hW5];rfl
    ·have e:(X ++ [(⟨.slice la n lc,.slice a1 (n + 1) c1,.slice a2 (n + 2) c2,.slice a3 (n + 3) c3,n,m⟩:Ent)]).flatMap entCells = X.flatMap entCells ++ [.slice la n lc,.slice a1 (n + 1) c1,.slice a2 (n + 2) c2,.slice a3 (n + 3) c3,.int .u8 m.toNat]:=by
      rw [List.flatMap_append];rfl
     rw [e,List.length_append]
     exact own_same ho5 (fun g hg=>Below.heap_setCell _ _ _ _ (fun eB=>by
      subst eB
      obtain ⟨cur,hcur⟩:=own_type ho5 hg
      rw [hW5] at hcur
      simp at hcur))
    · -- the blocks of bytes are neither B nor the row of entries
     have hfree:∀ k:Nat,(∃ cur,w4.heap[k]? = some (.cells cur 5 (0,0))) → (w5.setCell ⟨B,2,none⟩ (.slice a5 (X.length + 1) c5)).heap[k]? = w4.heap[k]?:=fun k ⟨cur,hcur⟩=>by
      refine hT46.block k ((Array.getElem?_eq_some_iff.1 hcur).1) ?_
      rintro (rfl | hk)
      ·rw [HW4.out] at hcur;simp at hcur
      ·obtain ⟨cur',hcur'⟩:=own_type HX4.out hk
       rw [hcur'] at hcur;simp at hcur
     have hlt4:∀ k,(Value.slice la n lc).ownBlock = some k → ∃ cur,w4.heap[k]? = some (.cells cur 5 (0,0)):=HKl4.out
     have h1t:∀ k,(Value.slice a1 (n + 1) c1).ownBlock = some k → ∃ cur,w4.heap[k]? = some (.cells cur 5 (0,0)):=fun k hk=>by
      by_cases hl:(Value.slice la n lc).ownBlock = some k
      ·exact hlt4 k hl
      ·obtain ⟨cur,hcur⟩:=HK2.out k hk
       have hk2:=(Array.getElem?_eq_some_iff.1 hcur).1
       exact ⟨cur,(HD4.out.block k (Nat.lt_of_lt_of_le hk2 HD3.out.size) hl).trans ((HD3.out.block k hk2 hl).trans hcur)⟩
     have h2t:∀ k,(Value.slice a2 (n + 2) c2).ownBlock = some k → ∃ cur,w4.heap[k]? = some (.cells cur 5 (0,0)):=fun k hk=>by
      by_cases hl:(Value.slice la n lc).ownBlock = some k
      ·exact hlt4 k hl
      ·obtain ⟨cur,hcur⟩:=HK3.out k hk
       have hk3:=(Array.getElem?_eq_some_iff.1 hcur).1
       exact ⟨cur,(HD4.out.block k hk3 hl).trans hcur⟩
     have h3t:∀ k,(Value.slice a3 (n + 3) c3).ownBlock = some k → ∃ cur,w4.heap[k]? = some (.cells cur 5 (0,0)):=HK4.out
     intro x hx
     rcases List.mem_append.1 hx with hx | hx
     ·refine (HX.out.ok x hx).turn (fun u hu k hk=>?_)
      obtain ⟨cur,hcur⟩:=(HX.out.ok x hx).blk u hu k hk
      have hkl:=(Array.getElem?_eq_some_iff.1 hcur).1
      have hne:=HAP.out x hx u hu k hk
      rw [HNn.out] at hne
      have e4:=HT4.out.block k hkl hne
      exact (hfree k ⟨cur,e4.trans hcur⟩).trans e4
     ·simp only [List.mem_singleton] at hx
      subst hx
      have hblk:∀ u ∈ entVals ⟨.slice la n lc,.slice a1 (n + 1) c1,.slice a2 (n + 2) c2,.slice a3 (n + 3) c3,n,m⟩,∀ k,u.ownBlock = some k → ∃ cur,w4.heap[k]? = some (.cells cur 5 (0,0)):=fun u hu k hk=>by
       simp only [entVals,List.mem_cons,List.not_mem_nil,or_false] at hu
       rcases hu with rfl | rfl | rfl | rfl
       ·exact hlt4 k hk
       ·exact h1t k hk
       ·exact h2t k hk
       ·exact h3t k hk
      have ok4:EntOk w4 ⟨.slice la n lc,.slice a1 (n + 1) c1,.slice a2 (n + 2) c2,.slice a3 (n + 3) c3,n,m⟩:=⟨HL4.out,HO4.out,HP4.out,HQ4.out,hnl,hblk⟩
      exact ok4.turn (fun u hu k hk=>hfree k (hblk u hu k hk))
    ·intro u hu k hk
     simp only [entVals,List.mem_cons,List.not_mem_nil,or_false] at hu
     rcases hu with rfl | rfl | rfl | rfl
     ·exact Or.inl hk
     ·exact HN2.out k hk
     ·exact HN3.out k hk
     ·exact HN4.out k hk)
   clear hT45 ha5 ho5 hg5 hW5
   go_wp2_with fail
   go_end0
   exact HF.out
end Go.Proofs.YtopcgnjocklcoaaGreatDoor
namespace Go.Proofs.YtopcgnjocklcoaaGreatDoor
open Go.RowKit
theorem strCells_bys (s:ByteArray):Lib.strCells s = s.toList.map byteCell:=by
 unfold Lib.strCells
 rw [ByteArray.toList_eq]
 rfl
theorem wpList_append_text (w:World) {ops:Array Oper} {rest:List Oper} {o:Oper} {a:Act} {Q:Exit → Act → World → Prop} (hgd:o.guard = none) (sl x:Operand)
  (ho:o.op = .call { callee:=.builtin .append,args:=#[sl,x],argTypes:=#[39,9] }) (hs:a.eval sl = .slice none 0 0) (s:ByteArray) (hx:a.eval x = .string s) (hl:s.size ≤ 1000000000) (L:List UInt8) (hL:s.toList = L)
  (h:∀ a' c' w',Bys w' w.heap.size (.slice a' L.length c') L → Below w.heap.size w w' → wpList Tryz.prog ops Q rest (a.put o.dst (.slice a' L.length c')) w'):wpList Tryz.prog ops Q (o :: rest) a w:=by
 obtain ⟨iI,hiI,hI0,hI1,hI2⟩:=info_parts Tryz.infoByte
 subst hL
 have hsl:s.toList.length = s.size:=by rw [ByteArray.toList_eq];rfl
 refine Lib.wpList_append_own_string w hgd sl x 39 9 ho w.heap.size 5 iI Tryz.underlying39 Tryz.underlying9 hiI hI0 hI1 hI2 _ 0 [] hs (World.ownsRow_nil _ _ _ _) s hx (by unfold maxLen;omega) (by omega) (Nat.le_refl _) ?_
 intro v' w' ho' hg' _
 rw [Nat.zero_add,List.nil_append,strCells_bys,← hsl] at ho'
 obtain ⟨a',c',rfl⟩:=own_slice ho'
 exact h a' c' w' ho' ⟨hg'.os,hg'.tape,hg'.output,hg'.size,fun k hk=>hg'.block k hk (by simp [Value.ownBlock])⟩
def Wide (w:World) (lo:Nat) (v:Value) (L:List UInt8):Prop:=∃ g c,v = .slice (some ⟨g,0,none⟩) L.length c ∧ Bys w lo (.slice (some ⟨g,0,none⟩) (L ++ [77]).length c) (L ++ [77])
theorem Wide.lower {w:World} {lo lo':Nat} {v:Value} {L:List UInt8} (h:Wide w lo v L) (hl:lo' ≤ lo):Wide w lo' v L:=by
 obtain ⟨g,c,hv,hB⟩:=h
 exact ⟨g,c,hv,hB.lower hl⟩
theorem Wide.rd {w:World} {lo:Nat} {v:Value} {L:List UInt8} (h:Wide w lo v L):Rd w v L:=by
 obtain ⟨g,c,rfl,hB⟩:=h
 refine Or.inr ⟨⟨g,0,none⟩,c,rfl,fun j u hu=>?_⟩
 have hj:j < L.length:=by
  rcases Nat.lt_or_ge j L.length with h | h
  ·exact h
  ·rw [List.getElem?_eq_none (by simpa using h)] at hu;cases hu
 exact hB.cells (g:=g) rfl j u (by rw [List.map_append,List.getElem?_append_left (by simpa using hj)];exact hu)
set_option maxRecDepth 100000 in
set_option maxHeartbeats 1000000 in
theorem wide_any (w:World) (s:ByteArray) (hs:s.size ≤ 1000000000) :
  Calls Tryz.prog 31 #[.string s] w fun e w'=>∃ v,e = .returned v ∧ Wide w' w.heap.size v s.toList ∧ Below w.heap.size w w':=by
 have hsl:s.toList.length = s.size:=by rw [ByteArray.toList_eq];rfl
 obtain ⟨L,HL⟩:∃ L,Hid (s.toList = L):=⟨_,hid rfl⟩
 rw [HL.out] at hsl ⊢
 have HSL:=hid hsl
 have hLl:L.length ≤ 1000000000:=by omega
 obtain ⟨M,HM⟩:∃ M,Hid (L ++ [77] = M):=⟨_,hid rfl⟩
 have hMl:M.length = L.length + 1:=by rw [← HM.out];simp
 have HML:=hid hMl
 clear hsl hMl
 go_enter Tryz.func31,Tryz.ntmps31
 go_wp2_with (at_builtin;refine wpList_append_text _ rfl (.tmp 4) (.tmp 5) rfl rfl s rfl hs L HL.out ?_)
 intro a1 c1 w1 hb1 hbel1
 have HB1:=hid hb1
 have hz1:=hbel1.size
 clear hb1
 go_wp2_with (at_builtin;refine wpList_append_rd _ rfl (.tmp 7) (.tmp 8) rfl _ L w.heap.size rfl (HB1.out.same ((Below.refl _ _).alloc (Nat.le_refl _) _)) _ [77] rfl (bys_one _ 77 _ rfl).rd M HM.out (by simp;omega) (by simp;omega) ?_)
 intro a2 c2 w2 hb2 hg2
 have hbel2:Below w.heap.size w w2:=(hbel1.alloc hz1 _).trans (hg2.below (fun k hk=>(HB1.out.lt k hk).1) (by simp;omega))
 obtain ⟨g,hg0⟩:∃ g,a2 = some ⟨g,0,none⟩:=by
  rcases hb2.2 with ⟨_,e⟩ | ⟨g,cap,cur,hv,_⟩
  ·have:=HML.out;omega
  ·simp at hv;exact ⟨g,hv.1⟩
 subst hg0
 have hcap:M.length ≤ c2:=by
  rcases hb2.2 with ⟨_,e⟩ | ⟨g,cap,cur,hv,_,_,h3,_⟩
  ·have:=HML.out;omega
  ·simp at hv;omega
 have hcI:(s.size:Int) ≤ (c2:Int):=by have h1:=HML.out;have h2:=HSL.out;omega
 have hc0:¬ c2 = 0:=by have h1:=HML.out;omega
 have HB2:=hid hb2
 clear hb2 hg2
 go_wp2_with fail
 go_ret
 refine ⟨_,rfl,⟨g,c2,?_,by rw [HM.out];exact HB2.out⟩,hbel2⟩
 rw [HSL.out];rfl
set_option maxRecDepth 100000 in
set_option maxHeartbeats 1000000 in
theorem still_any (w:World) (lo:Nat) (v:Value) (s:ByteArray) (h:Wide w lo v s.toList) (hs:s.size ≤ 1000000000) :
  Calls Tryz.prog 33 #[v,.string s] w fun e w'=>e = .returned (.bool true) ∧ Turn w w' (fun k=>v.ownBlock = some k):=by
 have hsl:s.toList.length = s.size:=by rw [ByteArray.toList_eq];rfl
 have hconv:=h.rd.conv
 have HSO:=hid (show (strOf s.toList).toList = s.toList from strOf_toList _)
 obtain ⟨g,c,rfl,hB⟩:=h
 rw [hsl] at hconv ⊢
 have hMl:(s.toList ++ [77]).length = s.size + 1:=by simp [hsl]
 have hcap:s.size + 1 ≤ c:=by
  rcases hB.2 with ⟨_,e⟩ | ⟨g,cap,cur,hv,_,_,h3,_⟩
  ·omega
  ·simp at hv;omega
 have h77:w.cell? ⟨g,s.size,none⟩ = some (.int .u8 77):=by
  have:=hB.cells (g:=g) rfl s.size (byteCell 77) (by rw [List.map_append,List.getElem?_append_right (by simp [hsl])];simp [hsl])
  rw [rd_add _ _ rfl] at this
  simpa [byteCell] using this
 have hcI:(s.size:Int) + 1 ≤ (c:Int):=by omega
 have hc0:¬ c = 0:=by omega
 have HB:=hid hB
 clear hB
 go_enter Tryz.func33,Tryz.ntmps33
 go_wp2_with fail
 have hrow:∃ cur,w.heap[g]? = some (.cells cur 5 (0,0)) ∧ cur.size = c:=by
  rcases HB.out.2 with ⟨h0,_⟩ | ⟨g',cap,cur,hv,_,hh,_,_,h3,_⟩
  ·simp at h0
  ·simp at hv
   obtain ⟨rfl,rfl⟩:=hv
   exact ⟨cur,hh,by simpa using h3⟩
 go_loopg [7] (s.size + 1) (fun gk i wr=>∃ k:Nat,k + gk = s.size + 1 ∧ i = .int .i64 k ∧ Hid (∃ cur,wr.heap[g]? = some (.cells cur 5 (0,0)) ∧ cur.size = c) ∧ Hid (Turn w wr (fun q=>q = g)))
 case atStart=>exact ⟨0,by omega,rfl,hid hrow,hid (Turn.refl _ _)⟩
 case round =>
  obtain ⟨k,hk,rfl,HR,HT⟩:=hrel
  by_cases hlt:k < s.size + 1
  ·have hltI:(k:Int) < (s.size:Int) + 1:=by omega
   obtain ⟨cur,hcur,hcs⟩:=HR.out
   obtain ⟨old,hck⟩:∃ old,wr.cell? ⟨g,k,none⟩ = some old:=by
    rw [cell_row hcur]
    exact ⟨_,List.getElem?_eq_getElem (by simp;omega)⟩
   have hfk:wr.frozen? ⟨g,k,none⟩ = false:=frozen_row hcur _
   have HR2:=hid (show ∃ cur,(wr.setCell ⟨g,k,none⟩ (.int .u8 78)).heap[g]? = some (.cells cur 5 (0,0)) ∧ cur.size = c from ⟨_,heap_setCell_same wr g k cur _ _ hcur,by simpa using hcs⟩)
   have HT2:=hid (HT.out.trans (Turn.setCell wr g k (.int .u8 78)) (fun q _ h=>h))
   clear hcur hcs
   go_wp2_with fail
   go_roundg (gk - 1)
   case rel=>exact ⟨k + 1,by omega,by go_num,HR2,HT2⟩
   case measure=>omega
  ·have hltI:¬ (k:Int) < (s.size:Int) + 1:=by omega
   have HT2:=hid (HT.out.weak (S':=fun q=>(Value.slice (some ⟨g,0,none⟩) s.size c).ownBlock = some q) (fun q h=>by rw [h];rfl))
   go_wp2_with fail
   go_ret
   exact ⟨rfl,HT2.out⟩
def Lent (w:World) (lo:Nat) (v:Value) (L:List UInt8):Prop:=Wide w lo v L ∨ (v = .slice none 0 0 ∧ L = [])
theorem Lent.rd {w:World} {lo:Nat} {v:Value} {L:List UInt8} (h:Lent w lo v L):Rd w v L:=by
 rcases h with h | ⟨rfl,rfl⟩
 ·exact h.rd
 ·exact Or.inl ⟨rfl,rfl⟩
theorem Lent.turn {w w':World} {lo:Nat} {v:Value} {L:List UInt8} (h:Lent w lo v L) (hs:∀ k,v.ownBlock = some k → w'.heap[k]? = w.heap[k]?):Lent w' lo v L:=by
 rcases h with ⟨g,c,rfl,hB⟩ | h
 ·exact Or.inl ⟨g,c,rfl,own_same hB (fun k hk=>hs k hk)⟩
 ·exact Or.inr h
theorem Lent.lt {w:World} {lo:Nat} {v:Value} {L:List UInt8} (h:Lent w lo v L):∀ k,v.ownBlock = some k → lo ≤ k ∧ k < w.heap.size:=by
 rcases h with ⟨g,c,rfl,hB⟩ | ⟨rfl,_⟩
 ·exact fun k hk=>hB.lt k hk
 ·exact fun k hk=>by simp [Value.ownBlock] at hk
set_option maxRecDepth 100000 in
set_option maxHeartbeats 1000000 in
theorem lent_any (w:World) (K A B C D:Int) (S T V:ByteArray) (hs:V.size ≤ 1000000000) :
  Calls Tryz.prog 16 #[.agg #[.int .i64 K,.int .i64 A,.int .i64 B,.int .i64 C,.int .i64 D,.string S,.string T,.string V]] w fun e w'=>∃ v,e = .returned v ∧ Lent w' w.heap.size v V.toList ∧ Below w.heap.size w w':=by
 have hb0:Below w.heap.size w (w.alloc (.cells #[.int .i64 K,.int .i64 A,.int .i64 B,.int .i64 C,.int .i64 D,.string S,.string T,.string V] 34)):=(Below.refl _ _).alloc (Nat.le_refl _) _
 by_cases hV:V.toList = []
 ·have hV0:V = ByteArray.empty:=by
   apply ByteArray.ext
   apply Array.toList_inj.1
   have:=hV
   rw [ByteArray.toList_eq] at this
   rw [this];rfl
  subst hV0
  by_cases hA:A.tmod 2 = 0
  ·have hAI:(A.tmod 2 == 0) = true:=by simpa using hA
   clear hA
   go_enter Tryz.func16,Tryz.ntmps16
   go_wp2_with fail
   refine (wide_any _ ByteArray.empty hs).mono ?_;rintro e w1 ⟨v1,rfl,hW,hbel⟩
   have HW:=hid hW
   have hbel1:=hb0.trans (hbel.mono hb0.size)
   clear hW
   go_wp2_with fail
   go_ret
   exact ⟨_,rfl,Or.inl (Wide.lower HW.out (by simp)),hbel1⟩
  ·have hAI:(A.tmod 2 == 0) = false:=by simpa using hA
   clear hA
   go_enter Tryz.func16,Tryz.ntmps16
   go_wp2_with fail
   go_ret
   exact ⟨_,rfl,Or.inr ⟨rfl,hV⟩,hb0⟩
 ·have hVI:(V.toList == []) = false:=by simpa using hV
  have hVE:V.toList.isEmpty = false:=by simpa using hV
  clear hV
  go_enter Tryz.func16,Tryz.ntmps16
  go_wp2_with fail
  refine (wide_any _ V hs).mono ?_;rintro e w1 ⟨v1,rfl,hW,hbel⟩
  have HW:=hid hW
  have hbel1:=hb0.trans (hbel.mono hb0.size)
  clear hW
  go_wp2_with fail
  go_ret
  exact ⟨_,rfl,Or.inl (Wide.lower HW.out (by simp)),hbel1⟩
set_option maxRecDepth 100000 in
set_option maxHeartbeats 1000000 in
theorem back_any (w:World) (lo:Nat) (v:Value) (K A B C D:Int) (S T V:ByteArray) (h:Lent w lo v V.toList) (hs:V.size ≤ 1000000000) :
  Calls Tryz.prog 18 #[.agg #[.int .i64 K,.int .i64 A,.int .i64 B,.int .i64 C,.int .i64 D,.string S,.string T,.string V],v] w fun e w'=>e = .returned (.bool true) ∧ Turn w w' (fun k=>v.ownBlock = some k):=by
 have hb0:Below w.heap.size w (w.alloc (.cells #[.int .i64 K,.int .i64 A,.int .i64 B,.int .i64 C,.int .i64 D,.string S,.string T,.string V] 34)):=(Below.refl _ _).alloc (Nat.le_refl _) _
 rcases h with hW | ⟨rfl,hV⟩
 ·have hVl:V.toList.length = V.size:=by rw [ByteArray.toList_eq];rfl
  obtain ⟨g,c,hv,hB⟩:=hW
  rw [hVl] at hv
  subst hv
  have HW:=hid (show Wide (w.alloc (.cells #[.int .i64 K,.int .i64 A,.int .i64 B,.int .i64 C,.int .i64 D,.string S,.string T,.string V] 34)) lo (.slice (some ⟨g,0,none⟩) V.size c) V.toList from ⟨g,c,by rw [hVl],hB.same hb0⟩)
  have hq:=eql_nil (some ⟨g,0,none⟩) V.size c
  clear hB hVl
  go_enter Tryz.func18,Tryz.ntmps18
  go_wp2_with fail
  refine (still_any _ lo _ V HW.out hs).mono ?_;rintro e w1 ⟨rfl,hT⟩
  have HT:=hid ((Turn.of_below (S:=fun k=>(Value.slice (some ⟨g,0,none⟩) V.size c).ownBlock = some k) hb0).trans hT (fun _ _ h=>h))
  clear hT
  go_wp2_with fail
  go_ret
  exact ⟨rfl,HT.out⟩
 ·have hq:=eql_nil none 0 0
  go_enter Tryz.func18,Tryz.ntmps18
  go_wp2_with fail
  go_ret
  exact ⟨rfl,Turn.of_below hb0⟩
end Go.Proofs.YtopcgnjocklcoaaGreatDoor
namespace Go.Proofs.YtopcgnjocklcoaaGreatDoor
def wholeN (sm:List UInt8 → List UInt8):Nat → List UInt8 → List (List UInt8) × Bool
 | 0,_=>([],true)
 | _ + 1,[]=>([],true)
 | f + 1,c :: r =>
  if okB c.toNat = true then
   if (c :: r).length < c.toNat + 5 then ([],true)
   else if frameP sm (r.take c.toNat) = (c :: r).take (c.toNat + 5) then (r.take c.toNat :: (wholeN sm f ((c :: r).drop (c.toNat + 5))).1,(wholeN sm f ((c :: r).drop (c.toNat + 5))).2)
   else ([],false)
  else ([],false)
def wholeP (sm:List UInt8 → List UInt8) (L:List UInt8):List (List UInt8) × Bool:=wholeN sm L.length L
def stBadB:St → Bool
 | none=>true
 | some _=>false
section
variable {sm:List UInt8 → List UInt8}
theorem feed_held (c:UInt8) (r:List UInt8) (h:okB c.toNat = true):∀ k,k ≤ (c :: r).length → k < 5 + c.toNat → feedF sm (some []) ((c :: r).take k) = ([],some ((c :: r).take k))
 | 0,_,_=>rfl
 | k + 1,hk,hl=>by
  have ih:=feed_held c r h k (by omega) (by omega)
  have hlt:k < (c :: r).length:=by omega
  have e:(c :: r).take (k + 1) = (c :: r).take k ++ [(c :: r)[k]]:=List.take_succ_eq_append_getElem hlt
  rw [e,feed_snoc,ih]
  have hd:((c :: r).take k ++ [(c :: r)[k]]).headD 0 = c:=by rw [← e];rfl
  have hlen:((c :: r).take k ++ [(c :: r)[k]]).length = k + 1:=by rw [← e,List.length_take];omega
  simp only [stepF,addP]
  rw [hd,if_pos h,hlen,if_pos (by omega)]
  rfl
theorem feed_one (c:UInt8) (r:List UInt8) (h:okB c.toNat = true) (hl:c.toNat + 5 ≤ (c :: r).length) :
  feedF sm (some []) ((c :: r).take (c.toNat + 5)) = if frameP sm (r.take c.toNat) = (c :: r).take (c.toNat + 5) then ([r.take c.toNat],some []) else ([],none):=by
 have ih:=feed_held (sm:=sm) c r h (c.toNat + 4) (by omega) (by omega)
 have hlt:c.toNat + 4 < (c :: r).length:=by omega
 have e:(c :: r).take (c.toNat + 5) = (c :: r).take (c.toNat + 4) ++ [(c :: r)[c.toNat + 4]]:=List.take_succ_eq_append_getElem hlt
 have hd:((c :: r).take (c.toNat + 5)).headD 0 = c:=rfl
 have hlen:((c :: r).take (c.toNat + 5)).length = c.toNat + 5:=by rw [List.length_take];omega
 have hpay:(((c :: r).take (c.toNat + 5)).drop 1).take (c.toNat + 5 - 5) = r.take c.toNat:=by
  rw [show c.toNat + 5 = (c.toNat + 4) + 1 by omega,List.take_succ_cons,List.drop_succ_cons,List.drop_zero,List.take_take]
  congr 1;omega
 have key:feedF sm (some []) ((c :: r).take (c.toNat + 4) ++ [(c :: r)[c.toNat + 4]]) = if frameP sm (r.take c.toNat) = (c :: r).take (c.toNat + 5) then ([r.take c.toNat],some []) else ([],none):=by
  rw [feed_snoc,ih]
  simp only [stepF,addP]
  rw [← e,hd,if_pos h,hlen,if_neg (by omega)]
  unfold unwrapP
  rw [hlen,hpay]
  by_cases hf:frameP sm (r.take c.toNat) = (c :: r).take (c.toNat + 5)
  ·rw [if_pos ⟨by omega,by rw [show c.toNat + 5 - 5 = c.toNat by omega];exact h,hf⟩,if_pos hf];rfl
  ·rw [if_neg (fun hh=>hf hh.2.2),if_neg hf];rfl
 rw [← e] at key
 exact key
theorem whole_feed:∀ (f:Nat) (L:List UInt8),L.length ≤ f → wholeN sm f L = ((feedF sm (some []) L).1,!stBadB (feedF sm (some []) L).2)
 | 0,L,h=>by
  have:L = []:=List.eq_nil_of_length_eq_zero (by omega)
  subst this;rfl
 | f + 1,[],_=>rfl
 | f + 1,c :: r,h=>by
  unfold wholeN
  by_cases hok:okB c.toNat = true
  ·rw [if_pos hok]
   by_cases hs:(c :: r).length < c.toNat + 5
   ·rw [if_pos hs]
    have:=feed_held (sm:=sm) c r hok (c :: r).length (Nat.le_refl _) (by omega)
    rw [List.take_length] at this
    rw [this];rfl
   ·rw [if_neg hs]
    have h1:=feed_one (sm:=sm) c r hok (by omega)
    have e:feedF sm (some []) (c :: r) = feedF sm (some []) ((c :: r).take (c.toNat + 5) ++ (c :: r).drop (c.toNat + 5)):=by rw [List.take_append_drop]
    rw [e,feed_append,h1]
    by_cases hf:frameP sm (r.take c.toNat) = (c :: r).take (c.toNat + 5)
    ·rw [if_pos hf,if_pos hf]
     have ih:=whole_feed f ((c :: r).drop (c.toNat + 5)) (by rw [List.length_drop];simp at h ⊢;omega)
     rw [ih]
     simp
    ·rw [if_neg hf,if_neg hf,feed_bad]
     rfl
  ·rw [if_neg hok]
   have h1:feedF sm (some []) (c :: r) = ([],none):=by
    show r.foldl (stepF sm) (stepF sm ([],some []) c) = _
    have:stepF sm ([],some []) c = ([],none):=by
     have ha:addP sm [] c = (none,none):=by
      unfold addP
      exact if_neg hok
     simp only [stepF,ha]
     rfl
    rw [this]
    exact feed_bad r
   rw [h1];rfl
theorem wholeP_feed (L:List UInt8):wholeP sm L = ((feedF sm (some []) L).1,!stBadB (feedF sm (some []) L).2):=whole_feed _ L (Nat.le_refl _)
theorem wholeN_any (f:Nat) (L:List UInt8) (h:L.length ≤ f):wholeN sm f L = wholeP sm L:=by rw [whole_feed f L h,wholeP_feed]
theorem wholeP_nil:wholeP sm [] = ([],true):=rfl
theorem wholeP_bad {c:UInt8} {r:List UInt8} (h:¬ okB c.toNat = true):wholeP sm (c :: r) = ([],false):=by
 show wholeN sm (r.length + 1) (c :: r) = _
 unfold wholeN;rw [if_neg h]
theorem wholeP_short {c:UInt8} {r:List UInt8} (h:okB c.toNat = true) (hl:(c :: r).length < c.toNat + 5):wholeP sm (c :: r) = ([],true):=by
 show wholeN sm (r.length + 1) (c :: r) = _
 unfold wholeN;rw [if_pos h,if_pos hl]
theorem wholeP_no {c:UInt8} {r:List UInt8} (h:okB c.toNat = true) (hl:¬ (c :: r).length < c.toNat + 5) (hf:¬ frameP sm (r.take c.toNat) = (c :: r).take (c.toNat + 5)):wholeP sm (c :: r) = ([],false):=by
 show wholeN sm (r.length + 1) (c :: r) = _
 unfold wholeN;rw [if_pos h,if_neg hl,if_neg hf]
theorem wholeP_yes {c:UInt8} {r:List UInt8} (h:okB c.toNat = true) (hl:¬ (c :: r).length < c.toNat + 5) (hf:frameP sm (r.take c.toNat) = (c :: r).take (c.toNat + 5)):wholeP sm (c :: r) = (r.take c.toNat :: (wholeP sm ((c :: r).drop (c.toNat + 5))).1,(wholeP sm ((c :: r).drop (c.toNat + 5))).2):=by
 have e:wholeP sm (c :: r) = (r.take c.toNat :: (wholeN sm r.length ((c :: r).drop (c.toNat + 5))).1,(wholeN sm r.length ((c :: r).drop (c.toNat + 5))).2):=by
  show wholeN sm (r.length + 1) (c :: r) = _
  conv=>lhs;unfold wholeN
  rw [if_pos h,if_neg hl,if_pos hf]
 rw [e,wholeN_any _ _ (by rw [List.length_drop,List.length_cons];omega)]
end
end Go.Proofs.YtopcgnjocklcoaaGreatDoor
namespace Go.Proofs.YtopcgnjocklcoaaGreatDoor
open Go.RowKit
structure RLs (w:World) (lo B:Nat) (v:Value) (vs:List Value) (Ls:List (List UInt8)):Prop where
 own:w.ownsRow lo 39 1 v Ls.length vs
 each:∀ (i:Nat) (u:Value) (L:List UInt8),vs[i]? = some u → Ls[i]? = some L → Rd w u L ∧ ∀ k,u.ownBlock = some k → 0 < L.length → k < B
theorem RLs.nil (w:World) (lo B:Nat):RLs w lo B (.slice none 0 0) [] []:=⟨World.ownsRow_nil _ _ _ _,fun i u L h=>by simp at h⟩
theorem RLs.push {w w2:World} {lo B:Nat} {v v' u:Value} {vs:List Value} {Ls:List (List UInt8)} {P:List UInt8} (h:RLs w lo B v vs Ls) (hB:B ≤ lo) (hu:Rd w u P ∧ ∀ k,u.ownBlock = some k → 0 < P.length → k < B)
  (hown:w2.ownsRow lo 39 1 v' (Ls.length + 1) (vs ++ [u])) (hb:Below lo w w2):RLs w2 lo B v' (vs ++ [u]) (Ls ++ [P]):=by
 have hl:vs.length = Ls.length:=by have:=h.own.1;omega
 refine ⟨by rw [List.length_append];exact hown,fun i q L hq hL=>?_⟩
 rcases Nat.lt_or_ge i vs.length with hi | hi
 ·rw [List.getElem?_append_left hi] at hq
  rw [List.getElem?_append_left (by omega)] at hL
  obtain ⟨h1,h2⟩:=h.each i q L hq hL
  exact ⟨h1.same hb (fun k hk h0=>by have:=h2 k hk h0;omega),h2⟩
 ·rw [List.getElem?_append_right hi] at hq
  rw [List.getElem?_append_right (by omega)] at hL
  have hi0:i - vs.length = 0:=by
   rcases Nat.eq_zero_or_pos (i - vs.length) with e | e
   ·exact e
   ·rw [List.getElem?_eq_none (by simp;omega)] at hq;cases hq
  rw [hi0] at hq
  rw [show i - Ls.length = 0 by omega] at hL
  simp at hq hL
  subst hq hL
  exact ⟨hu.1.same hb (fun k hk h0=>by have:=hu.2 k hk h0;omega),hu.2⟩
def WholePost (w:World) (W:List (List UInt8) × Bool) (e:Ending) (w':World):Prop :=
 ∃ la lc vs,e = .returned (.tuple #[.slice la W.1.length lc,.bool W.2]) ∧ Below w.heap.size w w' ∧ RLs w' w.heap.size w.heap.size (.slice la W.1.length lc) vs W.1
set_option maxRecDepth 100000 in
set_option maxHeartbeats 2000000 in
theorem whole_any (w:World) (a:Option Addr) (c:Nat) (L:List UInt8) (h:Rd w (.slice a L.length c) L) (hcap:L.length ≤ c) (hl:L.length ≤ 1000000000) :
  Calls Tryz.prog 69 #[.slice a L.length c] w (WholePost w (wholeP sumB L)):=by
 have H:=hid h
 clear h
 obtain ⟨W,HW⟩:∃ W,Hid (wholeP sumB L = W):=⟨_,hid rfl⟩
 rw [HW.out]
 go_enter Tryz.func69,Tryz.ntmps69
 go_wp2_with fail
 go_loopg [0,4,5,6,7,8] L.length (fun gk bv lv x5 x6 x7 x8 wr=>∃ (R:List UInt8) (a':Option Addr) (c':Nat) (la:Option Addr) (lc:Nat) (vs:List Value) (Ls:List (List UInt8)),bv = .slice a' R.length c' ∧ R.length ≤ gk ∧ gk ≤ L.length ∧ R.length ≤ c' ∧ lv = .slice la Ls.length lc ∧ Ls.length + R.length ≤ L.length ∧
   Hid (Rd wr bv R ∧ ∀ k,bv.ownBlock = some k → 0 < R.length → k < w.heap.size) ∧ Hid (W = (Ls ++ (wholeP sumB R).1,(wholeP sumB R).2)) ∧ Hid (RLs wr w.heap.size w.heap.size lv vs Ls) ∧ Below w.heap.size w wr)
 case atStart=>exact ⟨L,a,c,none,0,[],[],rfl,Nat.le_refl _,Nat.le_refl _,hcap,rfl,by simp,hid ⟨H.out,H.out.lt⟩,hid (by rw [← HW.out];rfl),hid (RLs.nil _ _ _),Below.refl _ _⟩
 case round =>
  obtain ⟨R,a',c',la,lc,vs,Ls,rfl,hRg,hgL,hRc,rfl,hLR,HR,HWd,HLs,hbel⟩:=hrel
  have hzr:=hbel.size
  cases R with
  | nil =>
   have HWe:=hid (show W = (Ls,true) by rw [HWd.out,wholeP_nil];simp)
   go_wp2_with fail
   go_ret2
   exact ⟨la,lc,vs,by rw [HWe.out];rfl,hbel,by rw [HWe.out];exact HLs.out⟩
  | cons x r =>
   obtain ⟨b,o,c'',hv,hb,hc⟩:=HR.out.1.at (by simp)
   obtain ⟨rfl,rfl⟩:a' = some ⟨b,o,none⟩ ∧ c' = c'':=by simpa using hv
   have hbw:b < w.heap.size:=HR.out.2 b rfl (by simp)
   have hc0:wr.cell? ⟨b,o,none⟩ = some (.int .u8 (x.toNat:Int)):=by have:=hc 0 (by simp);simpa using this
   have hx255:x.toNat ≤ 255:=by have:=x.toNat_lt;omega
   have HC:=hid hc
   have HBad:=hid (fun h=>wholeP_bad (sm:=sumB) (c:=x) (r:=r) h)
   have HShort:=hid (fun h1 h2=>wholeP_short (sm:=sumB) (c:=x) (r:=r) h1 h2)
   have HNo:=hid (fun h1 h2 h3=>wholeP_no (sm:=sumB) (c:=x) (r:=r) h1 h2 h3)
   have HYes:=hid (fun h1 h2 h3=>wholeP_yes (sm:=sumB) (c:=x) (r:=r) h1 h2 h3)
   obtain ⟨n,HN⟩:∃ n,Hid (x.toNat = n):=⟨_,hid rfl⟩
   rw [HN.out] at hc0 hx255 HBad HShort HNo HYes
   obtain ⟨R,HRe⟩:∃ R,Hid (x :: r = R):=⟨_,hid rfl⟩
   have HRt:Hid (r = R.drop 1):=by rw [← HRe.out];exact hid rfl
   rw [HRe.out] at HBad HShort HNo HYes
   rw [HRt.out] at HNo HYes
   rw [HRe.out] at HR HWd HC hRg hRc hLR ⊢
   have hR0:0 < R.length:=by rw [← HRe.out];simp
   clear hc hv
   by_cases hok:okB n = true
   ·have hnb:=okB_iff.1 hok
    have h1:¬ (n:Int) < 1:=by omega
    have h2:¬ (120:Int) < (n:Int):=by omega
    have HOK:=hid hok
    clear hok
    by_cases hsh:R.length < n + 5
    ·have hshI:(R.length:Int) < (n:Int) + 5:=by omega
     have HWe:=hid (show W = (Ls,true) by rw [HWd.out,HShort.out HOK.out hsh];simp)
     go_wp2_with fail
     go_ret2
     exact ⟨la,lc,vs,by rw [HWe.out];rfl,hbel,by rw [HWe.out];exact HLs.out⟩
    ·have hshI:¬ (R.length:Int) < (n:Int) + 5:=by omega
     have hcI:(n:Int) + 1 ≤ (c':Int):=by omega
     have hcI5:(n:Int) + 5 ≤ (c':Int):=by omega
     have hc1:¬ c' = 1:=by omega
     have HP1:=hid (Rd.piece HC.out 1 n (c' - 1) (by omega))
     have HP2:=hid (Rd.piece HC.out 0 (n + 5) c' (by omega))
     go_wp2_with fail
     have hnn:((n:Int) + 1).toNat - 1 = n:=by omega
     first | rw [hnn] | skip
     have hPl:((R.drop 1).take n).length = n:=by rw [List.length_take,List.length_drop];omega
     have HPl:=hid hPl
     refine (refFrame_any _ _ ((R.drop 1).take n) HP1.out (by rw [hPl];unfold maxLen;omega)).mono ?_;rintro e w1 ⟨hbel1,hq1⟩
     rw [hPl,HOK.out] at hq1
     obtain ⟨a1,c1,rfl,hB1⟩:=hq1
     have HB1:=hid hB1
     have hfl:=frameP_len sumB_len ((R.drop 1).take n)
     rw [hPl] at hfl
     have hbel01:=hbel.trans (hbel1.mono hzr)
     have HP21:=hid (HP2.out.later hbel1)
     have HP11:=hid (HP1.out.later hbel1)
     have hz1:=hbel1.size
     have HR1:=hid (HR.out.1.later hbel1)
     have HLs1:=hid (show RLs w1 w.heap.size w.heap.size (.slice la Ls.length lc) vs Ls from ⟨own_same HLs.out.own (fun g hg=>hbel1.block g (HLs.out.own.lt g hg).2),fun i u P hu hP=>⟨(HLs.out.each i u P hu hP).1.later hbel1,(HLs.out.each i u P hu hP).2⟩⟩)
     obtain ⟨G,HG⟩:∃ G,Hid (frameP sumB ((R.drop 1).take n) = G):=⟨_,hid rfl⟩
     rw [HG.out] at HB1 hfl HNo HYes ⊢
     have hGl:G.length ≤ 125:=by omega
     have hT5:((R.drop 0).take (n + 5)).length ≤ 125:=by rw [List.length_take];omega
     clear hB1 hPl hfl
     go_wp2_with fail
     have hnn5:((n:Int) + 5).toNat = n + 5:=by omega
     first | rw [hnn5] | skip
     refine (sameBytes_any _ _ _ G ((R.drop 0).take (n + 5)) HB1.out.rd HP21.out (by omega) (by omega)).mono ?_;rintro e w2 ⟨rfl,q2,rfl⟩
     rw [List.drop_zero] at *
     by_cases hE:G = R.take (n + 5)
     ·have HE:=hid hE
      have hd:decide (G = R.take (n + 5)) = true:=by simp [hE]
      rw [hd]
      clear hd hE
      have hbel2:=below_drewN hbel01 q2
      have HLs2:=hid (show RLs ((w1.drewN q2).alloc (.cells #[.slice (some ⟨b,o + 1,none⟩) n (c' - 1)] 39)) w.heap.size w.heap.size (.slice la Ls.length lc) vs Ls from
       ⟨World.ownsRow.alloc HLs1.out.own _,fun i u P hu hP=>⟨(HLs1.out.each i u P hu hP).1.later (((below_drewN (Below.refl _ _) q2)).alloc (Nat.le_refl _) _),(HLs1.out.each i u P hu hP).2⟩⟩)
      have HP12:=hid (show Rd ((w1.drewN q2).alloc (.cells #[.slice (some ⟨b,o + 1,none⟩) n (c' - 1)] 39)) (.slice (some ⟨b,o + 1,none⟩) n (c' - 1)) ((R.drop 1).take n) ∧ ∀ k,(Value.slice (some ⟨b,o + 1,none⟩) n (c' - 1)).ownBlock = some k → 0 < ((R.drop 1).take n).length → k < w.heap.size from
       ⟨HP11.out.later (((below_drewN (Below.refl _ _) q2)).alloc (Nat.le_refl _) _),fun k hk _=>by simp [Value.ownBlock] at hk;omega⟩)
      obtain ⟨A,hA,HRA,hAb⟩:∃ A,(if c' = n + 5 then some (⟨b,o,none⟩:Addr) else some ⟨b,o + (n + 5),none⟩) = A ∧ Hid (Rd w1 (.slice A (R.drop (n + 5)).length (c' - (n + 5))) (R.drop (n + 5))) ∧ ∀ k,(Value.slice A (R.drop (n + 5)).length (c' - (n + 5))).ownBlock = some k → k = b:=by
       by_cases hce:c' = n + 5
       ·have h0:R.drop (n + 5) = []:=List.drop_eq_nil_of_le (by omega)
        refine ⟨_,if_pos hce,?_,fun k hk=>by simp [Value.ownBlock] at hk;omega⟩
        rw [h0];exact Or.inr ⟨_,_,rfl,fun j u hu=>by simp at hu⟩
       ·refine ⟨_,if_neg hce,?_,fun k hk=>by simp [Value.ownBlock] at hk;omega⟩
        have:=Rd.piece (w:=w1) (b:=b) (o:=o) (L:=R) (fun j hj=>(hbel1.cell (p:=⟨b,o + j,none⟩) (by show b < _;omega)).trans (HC.out j hj)) (n + 5) (R.length - (n + 5)) (c' - (n + 5)) (by omega)
        have e:(R.drop (n + 5)).take (R.length - (n + 5)) = R.drop (n + 5):=List.take_of_length_le (by rw [List.length_drop];omega)
        rw [e] at this
        rw [List.length_drop];exact this
      have hdl:(R.drop (n + 5)).length = R.length - (n + 5):=List.length_drop
      have HWn:=hid (show W = ((Ls ++ [(R.drop 1).take n]) ++ (wholeP sumB (R.drop (n + 5))).1,(wholeP sumB (R.drop (n + 5))).2) by rw [HWd.out,HYes.out HOK.out hsh HE.out];simp)
      obtain ⟨R2,HR2⟩:∃ R2,Hid (R.drop (n + 5) = R2):=⟨_,hid rfl⟩
      rw [HR2.out] at HWn HRA hAb hdl
      have HDl:=hid hdl
      have HAb:=hid hAb
      clear hdl hAb
      go_wp2_with (at_builtin;refine wpList_append_gen _ rfl (.tmp 46) (.tmp 51) 82 39 _ 1 24 rfl Tryz.underlying82 Tryz.infoBytes rfl (by decide) _ Ls.length vs w.heap.size rfl HLs2.out.own _ 1 1 [.slice (some ⟨b,o + 1,none⟩) n (c' - 1)] rfl rfl (one_at _ _ _) one_slice (Ls.length + 1) rfl _ rfl (by unfold maxLen;omega) (by omega) (by simp;omega) ?_)
      intro a3 c3 w3 ho3 hg3
      have hbA:Below w.heap.size ((w1.drewN q2).alloc (.cells #[.slice (some ⟨b,o + 1,none⟩) n (c' - 1)] 39)) w3:=hg3.below (fun q hq=>(HLs2.out.own.lt q hq).1) (by simp;omega)
      have HLs3:=hid (HLs2.out.push (Nat.le_refl _) HP12.out ho3 hbA)
      have hbel3:Below w.heap.size w w3:=(hbel2.alloc (by simp;omega) _).trans hbA
      have HRA3:=hid (show Rd w3 (.slice A R2.length (c' - (n + 5))) R2 from (HRA.out.later (((below_drewN (Below.refl _ _) q2)).alloc (Nat.le_refl _) _)).same hbA (fun k hk _=>by have:=HAb.out k hk;omega))
      clear ho3 hg3
      have hsb:(0:Int) ≤ (n:Int) + 5:=by omega
      have hsb2:(n:Int) + 5 ≤ (R.length:Int):=by omega
      go_wp2_with fail
      go_roundg (gk - 1)
      case rel =>
       have hdl:=HDl.out
       refine ⟨R2,A,c' - (n + 5),a3,c3,vs ++ [.slice (some ⟨b,o + 1,none⟩) n (c' - 1)],Ls ++ [(R.drop 1).take n],by rw [hdl],by omega,by omega,by omega,by rw [List.length_append];rfl,by rw [List.length_append,List.length_singleton];omega,hid ⟨by have:=HRA3.out;rwa [hdl] at this,fun k hk _=>by have:=HAb.out k (by rw [hdl];exact hk);omega⟩,HWn,?_,hbel3⟩
       have:=HLs3.out
       exact hid this
      case measure=>omega
     ·have HWe:=hid (show W = (Ls,false) by rw [HWd.out,HNo.out HOK.out hsh hE];simp)
      have hd:decide (G = R.take (n + 5)) = false:=by simp [hE]
      rw [hd]
      have hbel2:=below_drewN hbel01 q2
      have HLs2:=hid (show RLs (w1.drewN q2) w.heap.size w.heap.size (.slice la Ls.length lc) vs Ls from ⟨HLs1.out.own,HLs1.out.each⟩)
      clear hd hE
      go_wp2_with fail
      go_ret2
      exact ⟨la,lc,vs,by rw [HWe.out];rfl,hbel2,by rw [HWe.out];exact HLs2.out⟩
   ·have hcond:((n:Int) < 1) ∨ (¬ (n:Int) < 1 ∧ (120:Int) < (n:Int)):=by
     have h1:¬ (1 ≤ n ∧ n ≤ 120):=fun h=>hok (okB_iff.2 h)
     omega
    have HWe:=hid (show W = (Ls,false) by rw [HWd.out,HBad.out hok];simp)
    clear hok
    rcases hcond with h1 | ⟨h1,h2⟩
    all_goals
     go_wp2_with fail
     go_ret2
     exact ⟨la,lc,vs,by rw [HWe.out];rfl,hbel,by rw [HWe.out];exact HLs.out⟩
end Go.Proofs.YtopcgnjocklcoaaGreatDoor
namespace Go.Proofs.YtopcgnjocklcoaaGreatDoor
open Go.RowKit
def RDef (w:World) (lo eb:Nat) (av:Value) (A:List UInt8):Prop :=
 w.heap[eb]? = some (.cells #[av,.int .i64 ((feedF sumB (some []) A).1.length:Int),.bool (stBadB (feedF sumB (some []) A).2)] 52 (0,0)) ∧ Bys w lo av A
def RdL (w:World) (v:Value) (Ls:List (List UInt8)):Prop :=
 ∃ a c,v = .slice a Ls.length c ∧ (0 < Ls.length → ∃ b o,a = some ⟨b,o,none⟩ ∧ b < w.heap.size ∧ ∀ i (hi:i < Ls.length),∃ u,w.cell? ⟨b,o + i,none⟩ = some u ∧ Rd w u Ls[i])
theorem Turn.trans' {w w1 w2:World} {S S':Nat → Prop} (h:Turn w w1 S) (k:Turn w1 w2 S'):Turn w w2 (fun q=>S' q ∨ S q) :=
 ⟨k.os.trans h.os,k.tape.trans h.tape,k.output.trans h.output,Nat.le_trans h.size k.size,fun q hq hn=>(k.block q (Nat.lt_of_lt_of_le hq h.size) (fun hs=>hn (Or.inl hs))).trans (h.block q hq (fun hs=>hn (Or.inr hs)))⟩
theorem own_cap' {w:World} {lo:Nat} {e:TypeId} {size n m c:Nat} {a:Option Addr} {xs:List Value} (h:w.ownsRow lo e size (.slice a m c) n xs):m = n ∧ n ≤ c:=by
 rcases h.2 with ⟨h1,rfl⟩ | ⟨g,cap,cur,h1,_,_,h2,_⟩
 ·simp at h1;omega
 ·simp at h1;omega
theorem rd_ne {w:World} {v:Value} {L:List UInt8} (h:Rd w v L) (h0:0 < L.length) {eb:Nat} {av:Value} {g:Int} {o:Bool} {T:TypeId} (he:w.heap[eb]? = some (.cells #[av,.int .i64 g,.bool o] T (0,0))) (ha:∀ n,av ≠ .int .u8 n):∀ k,v.ownBlock = some k → k ≠ eb:=by
 intro k hk e
 subst e
 obtain ⟨b,off,c,rfl,_,hc⟩:=h.at h0
 simp [Value.ownBlock] at hk
 subst hk
 have h1:=hc 0 h0
 rw [cell_row he] at h1
 have hoff:off + 0 = 0 ∨ off + 0 = 1 ∨ off + 0 = 2 ∨ 3 ≤ off + 0:=by omega
 rcases hoff with h | h | h | h
 ·rw [h] at h1;simp at h1;exact ha _ h1
 ·rw [h] at h1;simp at h1
 ·rw [h] at h1;simp at h1
 ·rw [List.getElem?_eq_none (by simpa using h)] at h1;simp at h1
def RFeedPost (w:World) (lo eb:Nat) (av:Value) (A V:List UInt8) (e:Ending) (w':World):Prop :=
 ∃ v av' A',e = .returned (.tuple #[v,.int .i64 (feedErr (feedF sumB (feedF sumB (some []) A).2 V).2)]) ∧ RdL w' v (feedF sumB (feedF sumB (some []) A).2 V).1 ∧ RDef w' lo eb av' A' ∧ (feedF sumB (some []) A').2 = (feedF sumB (feedF sumB (some []) A).2 V).2 ∧ A'.length ≤ A.length + V.length ∧
  Turn w w' (fun k=>k = eb ∨ av.ownBlock = some k) ∧ ∀ k,av'.ownBlock = some k → av.ownBlock = some k ∨ w.heap.size ≤ k
set_option maxRecDepth 100000 in
set_option maxHeartbeats 2000000 in
theorem refFeed_any (w:World) (lo eb:Nat) (av v:Value) (A V:List UInt8) (h:RDef w lo eb av A) (hr:Rd w v V) (hl:A.length + V.length ≤ 1000000000) (hlo:lo ≤ w.heap.size) :
  Calls Tryz.prog 40 #[.pointer (some ⟨eb,0,none⟩),v] w (RFeedPost w lo eb av A V):=by
 obtain ⟨he,hA⟩:=h
 have heb:eb < w.heap.size:=(Array.getElem?_eq_some_iff.1 he).1
 obtain ⟨aa,ac,rfl⟩:=own_slice hA
 have hc0:w.cell? ⟨eb,0,none⟩ = some (.slice aa A.length ac):=by rw [cell_row he];rfl
 have hc1:w.cell? ⟨eb,1,none⟩ = some (.int .i64 ((feedF sumB (some []) A).1.length:Int)):=by rw [cell_row he];rfl
 have hc2:w.cell? ⟨eb,2,none⟩ = some (.bool (stBadB (feedF sumB (some []) A).2)):=by rw [cell_row he];rfl
 have HE:=hid he
 have HA:=hid hA
 have HR:=hid hr
 clear he hA hr
 cases hst:(feedF sumB (some []) A).2 with
 | none =>
  have HST:=hid hst
  rw [hst] at hc2
  have hc2':w.cell? ⟨eb,2,none⟩ = some (.bool true):=hc2
  clear hst hc2 hc1 hc0
  go_enter Tryz.func40,Tryz.ntmps40
  go_wp2_with fail
  go_ret2
  refine ⟨.slice none 0 0,_,A,?_,?_,⟨HE.out,HA.out⟩,?_,by omega,Turn.refl _ _,fun k hk=>Or.inl hk⟩
  ·rw [HST.out,feed_bad];rfl
  ·rw [HST.out,feed_bad];exact ⟨none,0,rfl,fun h0=>absurd h0 (by simp)⟩
  ·rw [HST.out,feed_bad]
 | some H =>
  have HST:=hid hst
  rw [hst] at hc2
  have hc2':w.cell? ⟨eb,2,none⟩ = some (.bool false):=hc2
  clear hst hc2
  have hf0:w.frozen? ⟨eb,0,none⟩ = false:=frozen_row HE.out _
  obtain ⟨A',HA'⟩:∃ A',Hid (A ++ V = A'):=⟨_,hid rfl⟩
  have hl':A'.length = A.length + V.length:=by rw [← HA'.out,List.length_append]
  have HY:=hid (show feedF sumB (some []) A' = ((feedF sumB (some []) A).1 ++ (feedF sumB (some H) V).1,(feedF sumB (some H) V).2) by rw [← HA'.out,feed_append,HST.out])
  have hl2:A'.length ≤ 1000000000:=by omega
  have HL':=hid hl'
  clear hl'
  go_enter Tryz.func40,Tryz.ntmps40
  go_wp2_with (at_builtin;refine wpList_append_rd _ rfl (.tmp 17) (.tmp 18) rfl _ A lo rfl HA.out _ V rfl HR.out A' HA'.out (by omega) hlo ?_)
  intro a1 c1 w1 hb1 hg1
  have hne:(Value.slice aa A.length ac).ownBlock ≠ some eb:=fun e=>by
   obtain ⟨cur,hcur⟩:=own_type HA.out e
   rw [HE.out] at hcur
   simp at hcur
  have he1:=(hg1.g.block eb heb (fun e=>hne e.symm)).trans HE.out
  have hd0:w1.cell? ⟨eb,0,none⟩ = some (.slice aa A.length ac):=by rw [cell_row he1];rfl
  have hfr1:w1.frozen? ⟨eb,0,none⟩ = false:=frozen_row he1 _
  have HE1:=hid he1
  have HB1:=hid hb1
  have HG1:=hid hg1
  clear hb1 hg1 he1
  go_wp2_with fail
  obtain ⟨w2,hw2⟩:∃ w2,w2 = w1.setCell ⟨eb,0,none⟩ (.slice a1 A'.length c1):=⟨_,rfl⟩
  rw [← hw2]
  obtain ⟨G,HGn⟩:∃ G,Hid ((feedF sumB (some []) A).1.length = G):=⟨_,hid rfl⟩
  have he2:w2.heap[eb]? = some (.cells #[.slice a1 A'.length c1,.int .i64 (G:Int),.bool false] 52 (0,0)):=by
   rw [hw2,heap_setCell_same w1 eb 0 _ _ _ HE1.out,HST.out,HGn.out];rfl
  have hT2:Turn w w2 (fun k=>k = eb ∨ (Value.slice aa A.length ac).ownBlock = some k):=by
   rw [hw2]
   exact ((Turn.of_grew HG1.out).trans (S':=fun k=>(Value.slice aa A.length ac).ownBlock = some k) (Turn.refl _ _) (fun _ _ h=>h)).trans' (Turn.setCell w1 eb 0 _)
  have hne1:(Value.slice a1 A'.length c1).ownBlock ≠ some eb:=fun e=>by
   obtain ⟨cur,hcur⟩:=own_type HB1.out e
   rw [HE1.out] at hcur
   simp at hcur
  have HB2:=hid (show Bys w2 lo (.slice a1 A'.length c1) A' from own_same HB1.out (fun g hg=>by rw [hw2];exact Below.heap_setCell _ _ _ _ (fun e=>hne1 (by rw [hg,e]))))
  have heb2:eb < w2.heap.size:=(Array.getElem?_eq_some_iff.1 he2).1
  have HW:=hid (wholeP_feed (sm:=sumB) A')
  have HE2:=hid he2
  have HT2:=hid hT2
  clear hw2 he2 hT2 hd0 hfr1 hc0 hc1 hc2' hf0
  refine (whole_any _ a1 c1 A' HB2.out.rd (own_cap' HB2.out).2 (by omega)).mono ?_;rintro e w3 ⟨la,lc,vs,rfl,hbel3,hLs⟩
  have he3:=(hbel3.block eb heb2).trans HE2.out
  have d1:w3.cell? ⟨eb,1,none⟩ = some (.int .i64 (G:Int)):=by rw [cell_row he3];rfl
  have d2:w3.cell? ⟨eb,2,none⟩ = some (.bool false):=by rw [cell_row he3];rfl
  have df1:w3.frozen? ⟨eb,1,none⟩ = false:=frozen_row he3 _
  have df2:w3.frozen? ⟨eb,2,none⟩ = false:=frozen_row he3 _
  have hW1:(wholeP sumB A').1 = (feedF sumB (some []) A).1 ++ (feedF sumB (some H) V).1:=by rw [HW.out,HY.out]
  have hW2:(wholeP sumB A').2 = !stBadB (feedF sumB (some H) V).2:=by rw [HW.out,HY.out]
  rw [hW1] at hLs
  rw [hW1,hW2]
  have HN:=hid (show ((feedF sumB (some []) A).1 ++ (feedF sumB (some H) V).1).length = G + (feedF sumB (some H) V).1.length by rw [List.length_append,HGn.out])
  generalize hLL:(feedF sumB (some []) A).1 ++ (feedF sumB (some H) V).1 = LL at *
  have hLLc:LL.length ≤ lc:=(own_cap' hLs.own).2
  have hGn:G ≤ LL.length:=by rw [HN.out];omega
  have HE3:=hid he3
  have HLs:=hid hLs
  have HLL:=hid hLL
  clear he3 hLs hW1 hW2 hLL
  have hs1:(G:Int) ≤ (LL.length:Int):=by omega
  obtain ⟨Q,hQ⟩:∃ Q,(if lc = G then la else Option.map (fun x=>x.add G) la) = Q:=⟨_,rfl⟩
  generalize hbq:stBadB (feedF sumB (some H) V).2 = bq at *
  have HBQ:=hid hbq
  have fin:∀ w5,w5.heap[eb]? = some (.cells #[.slice a1 A'.length c1,.int .i64 (LL.length:Int),.bool bq] 52 (0,0)) → Turn w3 w5 (fun k=>k = eb) →
    RFeedPost w lo eb (.slice aa A.length ac) A V (.returned (.tuple #[.slice Q (LL.length - G) (lc - G),.int .i64 (bif bq then 7 else 0)])) w5:=by
   intro w5 h5 t5
   have hXl:(feedF sumB (some H) V).1.length = LL.length - G:=by rw [HN.out];omega
   have hY1:(feedF sumB (some []) A').1 = LL:=by rw [HY.out]
   refine ⟨.slice Q (LL.length - G) (lc - G),.slice a1 A'.length c1,A',?_,?_,⟨?_,?_⟩,?_,by rw [HL'.out];exact Nat.le_refl _,?_,?_⟩
   ·rw [HST.out]
    have:feedErr (feedF sumB (some H) V).2 = bif bq then 7 else 0:=by rw [← HBQ.out];cases (feedF sumB (some H) V).2 <;> rfl
    rw [this]
   ·rw [HST.out]
    refine ⟨Q,lc - G,by rw [hXl],fun h0=>?_⟩
    have hvl:vs.length = LL.length:=by have:=HLs.out.own.1;omega
    obtain ⟨g,hla⟩:∃ g,la = some ⟨g,0,none⟩:=by
     rcases HLs.out.own.2 with ⟨_,e⟩ | ⟨g,cap,cur,hv,_⟩
     ·omega
     ·simp at hv;exact ⟨g,hv.1⟩
    have hlg:=HLs.out.own.lt g (by rw [hla];rfl)
    have hgne:g ≠ eb:=by omega
    have hQ2:Q = some ⟨g,G,none⟩:=by
     rw [← hQ,if_neg (by omega),hla,Option.map_some,rd_add _ _ rfl];first | rfl | simp
    refine ⟨g,G,hQ2,Nat.lt_of_lt_of_le hlg.2 t5.size,fun i hi=>?_⟩
    have hiL:G + i < LL.length:=by omega
    have hLi:LL[G + i]? = some (feedF sumB (some H) V).1[i]:=by
     rw [← HLL.out,List.getElem?_append_right (by rw [HGn.out];omega),HGn.out,show G + i - G = i by omega,List.getElem?_eq_getElem hi]
    have hvi:vs[G + i]? = some vs[G + i]:=List.getElem?_eq_getElem (by omega)
    obtain ⟨hr,_⟩:=HLs.out.each (G + i) _ _ hvi hLi
    refine ⟨vs[G + i],?_,hr.turn (fun k hk hl0=>t5.block k ?_ (rd_ne hr hl0 HE3.out (fun n=>by simp) k hk))⟩
    ·have hcell:=HLs.out.own.cells (g:=g) (by rw [hla];rfl) (G + i) _ hvi
     rw [rd_add _ _ rfl] at hcell
     rw [World.cell?_of_block (w:=w3) (w':=w5) (a:=⟨g,G + i,none⟩) (t5.block g hlg.2 hgne)]
     simpa using hcell
    ·exact hr.lt k hk hl0
   ·rw [hY1,h5,HY.out,HBQ.out]
   ·exact own_same HB2.out (fun g hg=>(t5.block g (Nat.lt_of_lt_of_le (HB2.out.lt g hg).2 hbel3.size) (fun e=>hne1 (by rw [← e];exact hg))).trans (hbel3.block g (HB2.out.lt g hg).2))
   ·rw [HY.out,HST.out]
   ·exact (HT2.out.trans (Turn.of_below (S:=fun _=>False) hbel3) (fun _ _ h=>h.elim)).trans t5 (fun q _ h=>Or.inl h)
   ·intro k hk
    exact HG1.out.b k hk
  have he4:(w3.setCell ⟨eb,1,none⟩ (.int .i64 (LL.length:Int))).heap[eb]? = some (.cells #[.slice a1 A'.length c1,.int .i64 (LL.length:Int),.bool false] 52 (0,0)):=by
   rw [heap_setCell_same w3 eb 1 _ _ _ HE3.out];rfl
  have FIN:=hid fin
  have HE4:=hid he4
  clear fin he4 hbq
  cases bq with
  | true =>
   have HE5:=hid (show ((w3.setCell ⟨eb,1,none⟩ (.int .i64 (LL.length:Int))).setCell ⟨eb,2,none⟩ (.bool true)).heap[eb]? = some (.cells #[.slice a1 A'.length c1,.int .i64 (LL.length:Int),.bool true] 52 (0,0)) from by
    rw [heap_setCell_same _ eb 2 _ _ _ HE4.out];rfl)
   go_wp2_with fail
   go_ret2
   exact FIN.out _ HE5.out ((Turn.setCell _ _ _ _).trans (Turn.setCell _ _ _ _) (fun _ _ h=>h))
  | false =>
   go_wp2_with fail
   go_ret2
   exact FIN.out _ HE4.out (Turn.setCell _ _ _ _)
end Go.Proofs.YtopcgnjocklcoaaGreatDoor
namespace Go.Proofs.YtopcgnjocklcoaaGreatDoor
open Go.RowKit
structure DD where
 db:Nat
 eb:Nat
 av:Value
 A:List UInt8
def DD.st (d:DD):St:=(feedF sumB (some []) d.A).2
structure Law (w:World) (B lo:Nat) (dv ev bv:Value) (X:List Ent) (Ds:List DD):Prop where
 wat:WAt w B dv ev bv
 ents:Ents w lo bv X
 ds:w.ownsRow lo 48 1 dv Ds.length (Ds.map fun d=>.pointer (some ⟨d.db,0,none⟩))
 es:w.ownsRow lo 50 1 ev Ds.length (Ds.map fun d=>.pointer (some ⟨d.eb,0,none⟩))
 cut:∀ d ∈ Ds,Cut w d.db d.st
 rdf:∀ d ∈ Ds,RDef w lo d.eb d.av d.A
 low:lo ≤ B ∧ ∀ d ∈ Ds,lo ≤ d.db ∧ lo ≤ d.eb
 dne:∀ (i j:Nat) (d d':DD),Ds[i]? = some d → Ds[j]? = some d' → i ≠ j → d.db ≠ d'.db ∧ d.eb ≠ d'.eb ∧ ∀ k,d.av.ownBlock = some k → d'.av.ownBlock ≠ some k
 ape:∀ x ∈ X,∀ u ∈ entVals x,∀ k,u.ownBlock = some k → ∀ d ∈ Ds,d.av.ownBlock ≠ some k
 lox:∀ x ∈ X,∀ u ∈ entVals x,∀ k,u.ownBlock = some k → lo ≤ k
theorem Law.B_lt {w:World} {B lo:Nat} {dv ev bv:Value} {X:List Ent} {Ds:List DD} (h:Law w B lo dv ev bv X Ds):B < w.heap.size:=(Array.getElem?_eq_some_iff.1 h.wat).1
theorem EntOk.lt {w:World} {x:Ent} (h:EntOk w x):∀ u ∈ entVals x,∀ k,u.ownBlock = some k → k < w.heap.size:=fun u hu k hk=>by
 obtain ⟨cur,hc⟩:=h.blk u hu k hk
 exact (Array.getElem?_eq_some_iff.1 hc).1
theorem Cut.lt {w:World} {b:Nat} {s:St} (h:Cut w b s):b < w.heap.size:=by obtain ⟨cur,hc,_⟩:=h;exact (Array.getElem?_eq_some_iff.1 hc).1
theorem RDef.lt {w:World} {lo eb:Nat} {av:Value} {A:List UInt8} (h:RDef w lo eb av A):eb < w.heap.size:=(Array.getElem?_eq_some_iff.1 h.1).1
theorem Law.below {w w':World} {B lo:Nat} {dv ev bv:Value} {X:List Ent} {Ds:List DD} (h:Law w B lo dv ev bv X Ds) (hb:Below w.heap.size w w'):Law w' B lo dv ev bv X Ds :=
 ⟨(hb.block B h.B_lt).trans h.wat,⟨own_same h.ents.own (fun g hg=>hb.block g (h.ents.own.lt g hg).2),fun x hx=>(h.ents.ok x hx).turn (fun u hu k hk=>hb.block k ((h.ents.ok x hx).lt u hu k hk))⟩,
  own_same h.ds (fun g hg=>hb.block g (h.ds.lt g hg).2),own_same h.es (fun g hg=>hb.block g (h.es.lt g hg).2),
  fun d hd=>by obtain ⟨cur,hc,e⟩:=h.cut d hd;exact ⟨cur,(hb.block _ (h.cut d hd).lt).trans hc,e⟩,
  fun d hd=>⟨(hb.block _ (h.rdf d hd).lt).trans (h.rdf d hd).1,(h.rdf d hd).2.same hb⟩,h.low,h.dne,h.ape,h.lox⟩
theorem Law.own {w w':World} {B lo:Nat} {dv ev bv lv:Value} {X:List Ent} {Ds:List DD} {e:Ending} (h:Law w B lo dv ev bv X Ds) (hp:OwnPost w B lo dv ev bv lv X e w') (hl:∀ k,lv.ownBlock = some k → lo ≤ k ∧ (∃ cur,w.heap[k]? = some (.cells cur 5 (0,0))) ∧ ∀ d ∈ Ds,d.av.ownBlock ≠ some k) :
  e = .returned (.tuple #[]) ∧ ∃ bv' x,Law w' B lo dv ev bv' (X ++ [x]) Ds ∧ Below lo w w' ∧ Turn w w' (fun k=>k = B ∨ bv.ownBlock = some k ∨ lv.ownBlock = some k) ∧ ∀ u ∈ entVals x,∀ k,u.ownBlock = some k → lv.ownBlock = some k ∨ w.heap.size ≤ k:=by
 obtain ⟨he,bv',x,hW,hX,hT,hbv,hx⟩:=hp
 refine ⟨he,bv',x,?_,hT.below (by have:=h.low.1;have:=h.B_lt;omega) (fun k hk hs=>?_),hT,hx⟩
 ·have hfree:∀ k T cur,w.heap[k]? = some (.cells cur T (0,0)) → T ≠ 31 → T ≠ 54 → (T = 5 → lv.ownBlock ≠ some k) → w'.heap[k]? = w.heap[k]?:=fun k T cur hk h1 h2 h3=>by
   refine hT.block k (Array.getElem?_eq_some_iff.1 hk).1 ?_
   rintro (rfl | hs | hs)
   ·have:=h.wat;unfold WAt at this;rw [hk] at this;simp at this;exact h1 this.2
   ·obtain ⟨cur',hc'⟩:=own_type h.ents.own hs
    rw [hk] at hc';simp at hc';exact h2 hc'.2
   ·obtain ⟨_,⟨cur',hc'⟩,_⟩:=hl k hs
    rw [hk] at hc';simp at hc'
    exact h3 hc'.2 hs
  refine ⟨hW,hX,own_same h.ds (fun g hg=>?_),own_same h.es (fun g hg=>?_),fun d hd=>?_,fun d hd=>⟨?_,?_⟩,h.low,h.dne,fun y hy u hu k hk d hd=>?_,fun y hy u hu k hk=>?_⟩
  ·obtain ⟨cur,hc⟩:=own_type h.ds hg
   exact hfree g _ cur hc (by decide) (by decide) (fun e=>absurd e (by decide))
  ·obtain ⟨cur,hc⟩:=own_type h.es hg
   exact hfree g _ cur hc (by decide) (by decide) (fun e=>absurd e (by decide))
  ·obtain ⟨cur,hc,e⟩:=h.cut d hd
   exact ⟨cur,(hfree _ _ cur hc (by decide) (by decide) (fun e=>absurd e (by decide))).trans hc,e⟩
  ·exact (hfree _ _ _ (h.rdf d hd).1 (by decide) (by decide) (fun e=>absurd e (by decide))).trans (h.rdf d hd).1
  ·refine own_same (h.rdf d hd).2 (fun g hg=>?_)
   obtain ⟨cur,hc⟩:=own_type (h.rdf d hd).2 hg
   exact hfree g _ cur hc (by decide) (by decide) (fun _ e=>(hl g e).2.2 d hd hg)
  ·rcases List.mem_append.1 hy with hy | hy
   ·exact h.ape y hy u hu k hk d hd
   ·simp only [List.mem_singleton] at hy
    subst hy
    rcases hx u hu k hk with h1 | h1
    ·exact (hl k h1).2.2 d hd
    ·intro e
     have:=((h.rdf d hd).2.lt k e).2
     omega
  ·rcases List.mem_append.1 hy with hy | hy
   ·exact h.lox y hy u hu k hk
   ·simp only [List.mem_singleton] at hy
    subst hy
    rcases hx u hu k hk with h1 | h1
    ·exact (hl k h1).1
    ·have:=h.low.1;have:=h.B_lt;omega
 ·rcases hs with rfl | hs | hs
  ·have:=h.low.1;omega
  ·have:=(h.ents.own.lt k hs).1;omega
  ·have:=(hl k hs).1;omega
theorem Law.feed {w w':World} {B lo:Nat} {dv ev bv av':Value} {X:List Ent} {Ds:List DD} {i:Nat} {d:DD} {A':List UInt8} (h:Law w B lo dv ev bv X Ds) (hi:Ds[i]? = some d)
  (hT:Turn w w' (fun k=>k = d.db ∨ k = d.eb ∨ d.av.ownBlock = some k)) (hC:Cut w' d.db (feedF sumB (some []) A').2) (hR:RDef w' lo d.eb av' A') (hav:∀ k,av'.ownBlock = some k → d.av.ownBlock = some k ∨ w.heap.size ≤ k) :
  Law w' B lo dv ev bv X (Ds.set i ⟨d.db,d.eb,av',A'⟩) ∧ Below lo w w':=by
 have hd:=List.mem_of_getElem? hi
 have hBlt:=h.B_lt
 have hlow:=h.low.1
 have hil:i < Ds.length:=(List.getElem?_eq_some_iff.1 hi).1
 obtain ⟨curd,hcd,_⟩:=h.cut d hd
 have hce:=(h.rdf d hd).1
 have hfree:∀ (k:Nat) (T:TypeId) (cur:Array Value),w.heap[k]? = some (.cells cur T (0,0)) → (T = 80 → k ≠ d.db) → (T = 52 → k ≠ d.eb) → (T = 5 → d.av.ownBlock ≠ some k) → w'.heap[k]? = w.heap[k]?:=fun k T cur hk h1 h2 h3=>by
  refine hT.block k (Array.getElem?_eq_some_iff.1 hk).1 ?_
  rintro (e | e | e)
  ·subst e;rw [hcd] at hk;simp at hk;exact h1 hk.2.symm rfl
  ·subst e;rw [hce] at hk;simp at hk;exact h2 hk.2.symm rfl
  ·obtain ⟨cur',hc'⟩:=own_type (h.rdf d hd).2 e
   rw [hk] at hc';simp at hc';exact h3 hc'.2 e
 have hmap:∀ (f:DD → Value),f ⟨d.db,d.eb,av',A'⟩ = f d → (Ds.set i ⟨d.db,d.eb,av',A'⟩).map f = Ds.map f:=fun f hf=>by
  rw [List.map_set,hf]
  apply List.ext_getElem?
  intro j
  by_cases hj:i = j
  ·subst hj
   rw [List.getElem?_set_self (by simpa using hil),List.getElem?_map,hi];rfl
  ·rw [List.getElem?_set_ne hj]
 have hget:∀ (j:Nat) (y:DD),(Ds.set i ⟨d.db,d.eb,av',A'⟩)[j]? = some y → (j = i ∧ y = ⟨d.db,d.eb,av',A'⟩) ∨ (j ≠ i ∧ Ds[j]? = some y):=fun j y hy=>by
  by_cases hj:i = j
  ·subst hj
   rw [List.getElem?_set_self hil] at hy
   exact Or.inl ⟨rfl,by simpa using hy.symm⟩
  ·rw [List.getElem?_set_ne hj] at hy
   exact Or.inr ⟨fun e=>hj e.symm,hy⟩
 have hmem:∀ y ∈ Ds.set i ⟨d.db,d.eb,av',A'⟩,y = ⟨d.db,d.eb,av',A'⟩ ∨ ∃ j,j ≠ i ∧ Ds[j]? = some y:=fun y hy=>by
  obtain ⟨j,hj⟩:=List.mem_iff_getElem?.1 hy
  rcases hget j y hj with ⟨_,e⟩ | ⟨h1,h2⟩
  ·exact Or.inl e
  ·exact Or.inr ⟨j,h1,h2⟩
 have havlt:∀ y ∈ Ds,∀ k,y.av.ownBlock = some k → k < w.heap.size:=fun y hy k hk=>((h.rdf y hy).2.lt k hk).2
 refine ⟨⟨(hfree B _ _ h.wat (fun e=>absurd e (by decide)) (fun e=>absurd e (by decide)) (fun e=>absurd e (by decide))).trans h.wat,⟨own_same h.ents.own (fun g hg=>?_),fun x hx=>(h.ents.ok x hx).turn (fun u hu k hk=>?_)⟩,?_,?_,fun y hy=>?_,fun y hy=>?_,⟨hlow,fun y hy=>?_⟩,?_,fun x hx u hu k hk y hy=>?_,h.lox⟩,hT.below (by omega) (fun k hk hs=>?_)⟩
 ·obtain ⟨cur,hc⟩:=own_type h.ents.own hg
  exact hfree g _ cur hc (fun e=>absurd e (by decide)) (fun e=>absurd e (by decide)) (fun e=>absurd e (by decide))
 ·obtain ⟨cur,hc⟩:=(h.ents.ok x hx).blk u hu k hk
  exact hfree k _ cur hc (fun e=>absurd e (by decide)) (fun e=>absurd e (by decide)) (fun _=>h.ape x hx u hu k hk d hd)
 ·rw [List.length_set,hmap _ rfl]
  refine own_same h.ds (fun g hg=>?_)
  obtain ⟨cur,hc⟩:=own_type h.ds hg
  exact hfree g _ cur hc (fun e=>absurd e (by decide)) (fun e=>absurd e (by decide)) (fun e=>absurd e (by decide))
 ·rw [List.length_set,hmap _ rfl]
  refine own_same h.es (fun g hg=>?_)
  obtain ⟨cur,hc⟩:=own_type h.es hg
  exact hfree g _ cur hc (fun e=>absurd e (by decide)) (fun e=>absurd e (by decide)) (fun e=>absurd e (by decide))
 ·rcases hmem y hy with rfl | ⟨j,hj,hy2⟩
  ·exact hC
  ·have hym:=List.mem_of_getElem? hy2
   obtain ⟨cur,hc,e⟩:=h.cut y hym
   exact ⟨cur,(hfree _ _ cur hc (fun _=>(h.dne j i y d hy2 hi hj).1) (fun e=>absurd e (by decide)) (fun e=>absurd e (by decide))).trans hc,e⟩
 ·rcases hmem y hy with rfl | ⟨j,hj,hy2⟩
  ·exact hR
  ·have hym:=List.mem_of_getElem? hy2
   refine ⟨(hfree _ _ _ (h.rdf y hym).1 (fun e=>absurd e (by decide)) (fun _=>(h.dne j i y d hy2 hi hj).2.1) (fun e=>absurd e (by decide))).trans (h.rdf y hym).1,own_same (h.rdf y hym).2 (fun g hg=>?_)⟩
   obtain ⟨cur,hc⟩:=own_type (h.rdf y hym).2 hg
   exact hfree g _ cur hc (fun e=>absurd e (by decide)) (fun e=>absurd e (by decide)) (fun _=>(h.dne j i y d hy2 hi hj).2.2 g hg)
 ·rcases hmem y hy with rfl | ⟨j,hj,hy2⟩
  ·exact h.low.2 d hd
  ·exact h.low.2 y (List.mem_of_getElem? hy2)
 ·intro j j' y y' hy hy' hjj
  rcases hget j y hy with ⟨rfl,rfl⟩ | ⟨h1,h2⟩ <;> rcases hget j' y' hy' with ⟨rfl,rfl⟩ | ⟨h1',h2'⟩
  ·exact absurd rfl hjj
  ·obtain ⟨q1,q2,q3⟩:=h.dne j j' d y' hi h2' hjj
   refine ⟨q1,q2,fun k hk=>?_⟩
   rcases hav k hk with e | e
   ·exact q3 k e
   ·intro e'
    have:=havlt y' (List.mem_of_getElem? h2') k e'
    omega
  ·obtain ⟨q1,q2,q3⟩:=h.dne j j' y d h2 hi hjj
   refine ⟨q1,q2,fun k hk e'=>?_⟩
   rcases hav k e' with e | e
   ·exact q3 k hk e
   ·have:=havlt y (List.mem_of_getElem? h2) k hk
    omega
  ·exact h.dne j j' y y' h2 h2' hjj
 ·rcases hmem y hy with rfl | ⟨j,hj,hy2⟩
  ·intro e
   rcases hav k e with e | e
   ·exact h.ape x hx u hu k hk d hd e
   ·have:=(h.ents.ok x hx).lt u hu k hk
    omega
  ·exact h.ape x hx u hu k hk y (List.mem_of_getElem? hy2)
 ·have hl:=h.low.2 d hd
  rcases hs with rfl | rfl | hs
  ·omega
  ·omega
  ·have:=((h.rdf d hd).2.lt k hs).1;omega
theorem Law.other {w w':World} {B lo:Nat} {dv ev bv:Value} {X:List Ent} {Ds:List DD} {S:Nat → Prop} (h:Law w B lo dv ev bv X Ds) (hT:Turn w w' S) (hS:∀ (k:Nat) (cur:Array Value) (T:TypeId),S k → w.heap[k]? = some (.cells cur T (0,0)) → T = 39):Law w' B lo dv ev bv X Ds:=by
 have hfree:∀ (k:Nat) (T:TypeId) (cur:Array Value),w.heap[k]? = some (.cells cur T (0,0)) → T ≠ 39 → w'.heap[k]? = w.heap[k]?:=fun k T cur hk h1=>hT.block k (Array.getElem?_eq_some_iff.1 hk).1 (fun hs=>h1 (hS k cur T hs hk))
 refine ⟨(hfree B _ _ h.wat (by decide)).trans h.wat,⟨own_same h.ents.own (fun g hg=>?_),fun x hx=>(h.ents.ok x hx).turn (fun u hu k hk=>?_)⟩,own_same h.ds (fun g hg=>?_),own_same h.es (fun g hg=>?_),fun y hy=>?_,fun y hy=>⟨(hfree _ _ _ (h.rdf y hy).1 (by decide)).trans (h.rdf y hy).1,own_same (h.rdf y hy).2 (fun g hg=>?_)⟩,h.low,h.dne,h.ape,h.lox⟩
 ·obtain ⟨cur,hc⟩:=own_type h.ents.own hg
  exact hfree g _ cur hc (by decide)
 ·obtain ⟨cur,hc⟩:=(h.ents.ok x hx).blk u hu k hk
  exact hfree k _ cur hc (by decide)
 ·obtain ⟨cur,hc⟩:=own_type h.ds hg
  exact hfree g _ cur hc (by decide)
 ·obtain ⟨cur,hc⟩:=own_type h.es hg
  exact hfree g _ cur hc (by decide)
 ·obtain ⟨cur,hc,e⟩:=h.cut y hy
  exact ⟨cur,(hfree _ _ cur hc (by decide)).trans hc,e⟩
 ·obtain ⟨cur,hc⟩:=own_type (h.rdf y hy).2 hg
  exact hfree g _ cur hc (by decide)
theorem op_cells {w:World} {b:Nat} {K A B C D:Int} {S T V:ByteArray} (h:w.heap[b]? = some (.cells #[.int .i64 K,.int .i64 A,.int .i64 B,.int .i64 C,.int .i64 D,.string S,.string T,.string V] 34 (0,0))) :
  w.cell? ⟨b,0,none⟩ = some (.int .i64 K) ∧ w.cell? ⟨b,1,none⟩ = some (.int .i64 A) ∧ w.cell? ⟨b,2,none⟩ = some (.int .i64 B) ∧ w.cell? ⟨b,3,none⟩ = some (.int .i64 C) ∧ w.cell? ⟨b,4,none⟩ = some (.int .i64 D) ∧ w.cell? ⟨b,5,none⟩ = some (.string S) ∧ w.cell? ⟨b,6,none⟩ = some (.string T) ∧ w.cell? ⟨b,7,none⟩ = some (.string V):=by
 refine ⟨?_,?_,?_,?_,?_,?_,?_,?_⟩ <;> (rw [cell_row h];rfl)
theorem conv_bytes (w:World) (s:ByteArray):∃ a c w',(convert 9 39 (.string s)).run Tryz.prog w = .ok (.slice (some a) s.size c) w' ∧ Hid (Rd w' (.slice (some a) s.size c) s.toList) ∧ Hid (Below w.heap.size w w'):=by
 refine ⟨_,_,_,Lib.run_convert_string_bytes w 9 39 5 s Tryz.underlying9 Tryz.underlying39 Tryz.underlying5,?_,?_⟩
 ·have hsl:s.toList.length = s.size:=by rw [ByteArray.toList_eq];rfl
  refine Or.inr ⟨⟨w.heap.size,0,none⟩,_,by rw [hsl],fun j u hu=>?_⟩
  have hj:j < s.size:=by
   rcases Nat.lt_or_ge j s.size with h | h
   ·exact h
   ·rw [List.getElem?_eq_none (by simp;omega)] at hu;cases hu
  rw [rd_add _ _ rfl,Nat.zero_add,Lib.bytesWorld_cell w _ s j hj]
  rw [List.getElem?_map,ByteArray.toList_eq,List.getElem?_eq_getElem (by rw [← ByteArray.toList_eq];omega)] at hu
  simp only [Option.map_some,Option.some.injEq] at hu
  rw [← hu]
  simp only [byteCell,List.getD_eq_getElem?_getD]
  rw [List.getElem?_eq_getElem (by rw [← ByteArray.toList_eq];omega)]
  rfl
 ·exact ⟨rfl,rfl,rfl,by rw [Lib.bytesWorld_size];omega,fun k hk=>Lib.bytesWorld_at_old w _ s k hk⟩
end Go.Proofs.YtopcgnjocklcoaaGreatDoor
