/- Package courierref's cursor: text. -/
import Derived.Test.YtopcgnjocklcoaaGreatDoorMEncA
namespace Go.Proofs.YtopcgnjocklcoaaGreatDoor
open Go.RowKit
def RPost (spec:List UInt8 → Got) (w:World) (cb:Nat) (lv:Value) (s:ByteArray) (i:Nat) (d:Int) (K:Nat) (e:Ending) (w':World):Prop :=
 ∃ (a:Option Addr) (c:Nat) (out:List UInt8) (i':Nat) (ok:Bool),e = .returned (.slice a out.length c) ∧ Bys w' w.heap.size (.slice a out.length c) out ∧ But cb w w' ∧ Cu w' cb lv s i' ok d ∧ i ≤ i' ∧ (ok = true → out.length ≤ 2 * (i' - i)) ∧ out.length ≤ 2 * (i' - i) + K ∧
  spec (tailB s i) = (match ok with | true=>some (out,tailB s i') | false=>none)
theorem tail_eat1 (s:ByteArray) (k:Nat) (q:UInt8):(eatP [q] (tailB s k)).isSome = true ↔ ∃ h:k < s.size,s[k]'h = q:=by
 unfold eatP
 by_cases hk:k < s.size
 ·rw [tail_cons s k hk]
  by_cases e:q = s[k]'hk
  ·subst e;simp [List.isPrefixOf,hk]
  ·have:([q].isPrefixOf (s[k]'hk :: tailB s (k + 1))) = false:=by simp [List.isPrefixOf,e]
   rw [this];simp [hk];exact fun h=>e h.symm
 ·rw [tail_nil s k (by omega)];simp [List.isPrefixOf,hk]
theorem eat1_none {s:ByteArray} {k:Nat} {q:UInt8} (h:(eatP [q] (tailB s k)).isSome = false):eatP [q] (tailB s k) = none:=by
 cases e:eatP [q] (tailB s k) with
 | none=>rfl
 | some r=>rw [e] at h;cases h
theorem eat1_some {s:ByteArray} {k:Nat} {q:UInt8} (h:(eatP [q] (tailB s k)).isSome = true):eatP [q] (tailB s k) = some (tailB s (k + 1)):=by
 cases e:eatP [q] (tailB s k) with
 | none=>rw [e] at h;cases h
 | some r =>
  have:=eatP_some e
  obtain ⟨hk,_⟩:=(tail_eat1 s k q).1 h
  rw [tail_cons s k hk] at this
  simp only [List.cons_append,List.nil_append,List.cons.injEq] at this
  rw [this.2]
theorem quoteB:(ByteArray.mk #[34]).toList = [34]:=by rw [ByteArray.toList_eq]
def TSt (G:Got) (s:ByteArray) (k:Nat) (out:List UInt8) (ok:Bool):Prop:=match ok with
 | true=>G = (lettersG (tailB s k)).map fun x=>(out ++ x.1,x.2)
 | false=>G = none
theorem TSt.last {G:Got} {s:ByteArray} {k:Nat} {out:List UInt8} {ok:Bool} (h:TSt G s k out ok) (he:ok = true → s.size ≤ k ∨ ∃ h:k < s.size,s[k]'h = 34) {r:Bool} (hr:(eatP [34] (tailB s k)).isSome = r):G = (match (ok && r) with | true=>some (out,tailB s (upTo r k 1)) | false=>none):=by
 cases ok with
 | false=>exact h
 | true =>
  have h':G = (lettersG (tailB s k)).map fun x=>(out ++ x.1,x.2):=h
  rcases he rfl with hk | ⟨hk,e⟩
  ·have:r = false:=by
    cases r with
    | false=>rfl
    | true=>obtain ⟨q,_⟩:=(tail_eat1 s k 34).1 hr;omega
   subst this
   rw [h',tail_nil s k hk,lettersG_nil];rfl
  ·have:r = true:=by rw [← hr];exact (tail_eat1 s k 34).2 ⟨hk,e⟩
   subst this
   rw [h',tail_cons s k hk,e,lettersG_end]
   simp [upTo]
theorem TSt.plain {G:Got} {s:ByteArray} {k:Nat} {out:List UInt8} (h:TSt G s k out true) (hk:k < s.size) (hp:plainC (s[k]'hk) = true):TSt G s (k + 1) (out ++ [s[k]'hk]) true:=by
 have h':G = (lettersG (tailB s k)).map fun x=>(out ++ x.1,x.2):=h
 show G = _
 rw [h',tail_cons s k hk,lettersG_plain _ hp,Option.map_map]
 congr 1
 funext x
 simp
theorem TSt.bad {G:Got} {s:ByteArray} {k:Nat} {out:List UInt8} (h:TSt G s k out true) (hk:k < s.size) (hp:plainC (s[k]'hk) = false) (h34:s[k]'hk ≠ 34) (h92:s[k]'hk ≠ 92):G = none:=by
 have h':G = (lettersG (tailB s k)).map fun x=>(out ++ x.1,x.2):=h
 rw [h',tail_cons s k hk,lettersG_bad _ hp h34 h92];rfl
theorem tail_len (s:ByteArray) (k:Nat):(tailB s k).length = s.size - k:=by unfold tailB;rw [List.length_drop,size_list]
theorem TSt.short {G:Got} {s:ByteArray} {k:Nat} {out:List UInt8} (h:TSt G s k out true) (hk:k < s.size) (h92:s[k]'hk = 92) (hl:s.size - k < 3):G = none:=by
 have h':G = (lettersG (tailB s k)).map fun x=>(out ++ x.1,x.2):=h
 rw [h',tail_cons s k hk,h92,lettersG_short _ (by rw [tail_len];omega)];rfl
theorem TSt.hex {G:Got} {s:ByteArray} {k:Nat} {out:List UInt8} (h:TSt G s k out true) (hk:k + 2 < s.size) (h92:s[k]'(by omega) = 92) {a b:Int} (ha:a = hexI ((s[k + 1]'(by omega)).toNat:Int)) (hb:b = hexI ((s[k + 2]'hk).toNat:Int)) {v:UInt8} (hv:0 ≤ a → 0 ≤ b → (v.toNat:Int) = 16 * a + b) :
  TSt G s (k + 3) (out ++ [v]) (decide (0 ≤ a) && (decide (0 ≤ b) && !plainI (v.toNat:Int))):=by
 have h':G = (lettersG (tailB s k)).map fun x=>(out ++ x.1,x.2):=h
 rw [tail_cons s k (by omega),tail_cons s (k + 1) (by omega),tail_cons s (k + 1 + 1) (by omega),h92,lettersG_hex] at h'
 have e1:=hex_eq (s[k + 1]'(by omega))
 have e2:=hex_eq (s[k + 1 + 1]'(by omega))
 rw [← ha] at e1
 have hb':b = hexI ((s[k + 1 + 1]'(by omega)).toNat:Int):=hb
 rw [← hb'] at e2
 cases g1:hexV (s[k + 1]'(by omega)) with
 | none =>
  rw [g1] at e1 h'
  simp only at e1 h'
  have:decide (0 ≤ a) = false:=by simp;omega
  rw [this];exact h'
 | some x =>
  rw [g1] at e1 h'
  simp only at e1
  have da:decide (0 ≤ a) = true:=by simp;omega
  cases g2:hexV (s[k + 1 + 1]'(by omega)) with
  | none =>
   rw [g2] at e2 h'
   simp only at e2 h'
   have:decide (0 ≤ b) = false:=by simp;omega
   rw [da,this];exact h'
  | some y =>
   rw [g2] at e2 h'
   simp only at e2 h'
   have db:decide (0 ≤ b) = true:=by simp;omega
   have hv':=hv (by omega) (by omega)
   have ev:(16 * x + y).toUInt8 = v:=by
    apply UInt8.toNat.inj
    have hlt:=v.toNat_lt
    have:(16 * x + y).toUInt8.toNat = 16 * x + y:=by
     have:=u8_lt (m:=16 * x + y) (by omega)
     omega
    omega
   rw [ev] at h'
   rw [da,db,← plain_eq]
   cases hp:plainC v with
   | true=>rw [hp] at h';show G = none;simpa using h'
   | false =>
    rw [hp] at h'
    show G = _
    simp only [Bool.false_eq_true,if_false] at h'
    rw [h',Option.map_map]
    congr 1
    funext z
    simp
theorem Bys.but {w w':World} {lo cb o:Nat} {v:Value} {L:List UInt8} {T:TypeId} {ys:List Value} (h:Bys w lo v L) (hc:Seg w cb T o ys) (hT:5 ≠ T) (hb:But cb w w'):Bys w' lo v L :=
 own_same h (fun g hg=>hb.block g (h.lt g hg).2 (own_seg_ne h hc hT hg))
theorem step_append_by (w:World) {ops:Array Oper} {o:Oper} {a:Act} {K:Act → World → Prop} {Q:Exit → Act → World → Prop} {E:Prop} (hgd:o.guard = none) (s x:Operand)
  (ho:o.op = .call { callee:=.builtin .append,args:=#[s,x],argTypes:=#[39,39] })
  (v:Value) (L:List UInt8) (lo:Nat) (hs:a.eval s = v) (hP:Bys w lo v L) (v2:Value) (L2:List UInt8) (lo2:Nat) (hx:a.eval x = v2) (hP2:Bys w lo2 v2 L2)
  (hlen:L.length + L2.length ≤ 100000000000) (hlo:lo ≤ w.heap.size)
  (h:∀ a' c' w',Bys w' lo (.slice a' (L ++ L2).length c') (L ++ L2) → Grew w w' v (.slice a' (L ++ L2).length c') → K (a.put o.dst (.slice a' (L ++ L2).length c')) w') :
  if Region.wanted o (yielded ops a.tmps) = true then Oper.wp Tryz.prog o a w K Q else E:=by
 have hw:Region.wanted o (yielded ops a.tmps) = true:=by simp [Region.wanted,hgd]
 rw [if_pos hw]
 exact wp_append_by w s x ho v L lo hs hP v2 L2 lo2 hx hP2 hlen hlo h
theorem Cu.grew {w wx w':World} {cb:Nat} {lv:Value} {s:ByteArray} {i:Nat} {ok:Bool} {d:Int} {lo:Nat} {v v':Value} {L:List UInt8} (h:Cu w cb lv s i ok d) (hb:Below w.heap.size w wx) (hB:Bys w lo v L) (hg:Grew wx w' v v'):Cu w' cb lv s i ok d :=
 h.same ((hg.g.block cb (Nat.lt_of_lt_of_le h.seg.lt hb.size) (fun e=>own_seg_ne hB h.seg (by decide) e.symm rfl)).trans (hb.block cb h.seg.lt))
theorem But.grew {w0 w wx w':World} {cb:Nat} {v v':Value} {L:List UInt8} (h:But cb w0 w) (hb:Below w.heap.size w wx) (hB:Bys w w0.heap.size v L) (hg:Grew wx w' v v'):But cb w0 w':=by
 have h1:=h.trans (But.ofBelow hb)
 refine ⟨hg.g.os.trans h1.os,hg.g.tape.trans h1.tape,hg.g.output.trans h1.output,Nat.le_trans h1.size hg.g.size,fun k hk hne=>?_⟩
 rw [hg.g.block k (Nat.lt_of_lt_of_le hk h1.size) (fun e=>by have:=(hB.lt k e.symm).1;omega)]
 exact h1.block k hk hne
theorem bys_at (w:World) (H:Nat) (hH:w.heap.size = H) (c:UInt8) (z:Int) (hz:z = (c.toNat:Int)):Bys (w.alloc (.cells #[.int .u8 z] 5)) H (.slice (some ⟨H,0,none⟩) 1 1) [c]:=by
 subst hH;exact bys_one w c z hz
theorem upTo_ge (b:Bool) (i n:Nat):i ≤ upTo b i n:=by cases b <;> simp [upTo]
set_option maxRecDepth 100000 in
set_option maxHeartbeats 4000000 in
theorem text_any (w:World) (cb:Nat) (la:Option Addr) (ll lc:Nat) (s:ByteArray) (i:Nat) (d:Int) (h:Cu w cb (.slice la ll lc) s i true d) (hs:s.size ≤ 400) :
  Calls Tryz.prog 54 #[.pointer (some ⟨cb,0,none⟩)] w (RPost textP w cb (.slice la ll lc) s i d 1):=by
 unfold RPost
 have H:=hid h
 have hle:=h.le
 clear h
 go_enter Tryz.func54,Tryz.ntmps54
 go_wp2_with fail
 refine (need_any w cb la ll lc s _ i true d H.out hs (by decide)).mono ?_;rintro e w1 ⟨⟨v,rfl⟩,hb1,hc1⟩
 rw [quoteB] at hc1
 simp only [Bool.true_and] at hc1
 generalize hr:(eatP [34] (tailB s i)).isSome = r at *
 have HR:=hid hr
 clear hr
 have hz1:(ByteArray.mk #[34]).size = 1:=rfl
 rw [hz1] at hc1
 obtain ⟨k0,hk0⟩:∃ k0,k0 = upTo r i 1:=⟨_,rfl⟩
 rw [← hk0] at hc1
 have hk0':i ≤ k0 ∧ k0 ≤ i + 1 ∧ (r = true → k0 = i + 1):=by rw [hk0];cases r <;> simp [upTo]
 have HC1:=hid hc1
 have hle0:=hc1.le
 generalize hG:textP (tailB s i) = G
 have HG:=hid hG
 have HT0:=hid (show TSt G s k0 [] r from by
  cases r with
  | true =>
   show G = _
   rw [← hG,textP_eq,eat1_some HR.out,hk0'.2.2 rfl];simp
  | false =>
   show G = none
   rw [← hG,textP_eq,eat1_none HR.out];rfl)
 clear hc1 hk0 hG
 have hz:=hb1.size
 go_wp2_with fail
 go_loopg [3,4,5,6,7] (s.size + 1) (fun gk o3 p4 a5 b6 v7 wr=>∃ (k:Nat) (out:List UInt8) (ok:Bool),i ≤ k ∧ k ≤ s.size ∧ (s.size - k) + (bif ok then 1 else 0) ≤ gk ∧ Hid (Cu wr cb (.slice la ll lc) s k ok d) ∧ Hid (Bys wr w.heap.size o3 out) ∧ out.length ≤ k - i ∧ Hid (TSt G s k out ok) ∧ But cb w wr)
 case atStart=>exact ⟨k0,[],r,hk0'.1,hle0,by cases r <;> simp <;> omega,hid HC1.out,hid (World.ownsRow_nil _ _ _ _),by simp,hid HT0.out,hb1⟩
 case round =>
  obtain ⟨k,out,ok,hik,hks,hgk,HC,HB,hol,HT,hbut⟩:=hrel
  obtain ⟨oa,oc,hov⟩:∃ a c,u3 = .slice a out.length c:=own_slice HB.out
  subst hov
  have e1:=HC.out.seg.cell (j:=1) rfl
  have e2:=HC.out.seg.cell (j:=2) rfl
  have e3:=HC.out.seg.cell (j:=3) rfl
  have ef:=HC.out.seg.frozen 2
  have ef3:=HC.out.seg.frozen 3
  simp only [Nat.zero_add] at e1 e2 e3
  cases ok with
  | false =>
   go_wp2_with fail
   go_quiet (fail)
   go_wp2_with fail
   refine (need_any _ cb la ll lc s _ k false d (HC.out.drew nq) hs (by decide)).mono ?_;rintro e w2 ⟨⟨v2,rfl⟩,hb2,hc2⟩
   rw [quoteB] at hc2
   generalize hr2:(eatP [34] (tailB s k)).isSome = r2 at *
   have HF:=hid (HT.out.last (fun e=>by cases e) hr2)
   have HC2:=hid hc2
   have hb02:But cb w w2:=(hbut.trans (But.drewN _ _)).trans hb2
   have HB2:=hid ((HB.out.same (below_drewN (Below.refl _ _) _)).but (HC.out.drew nq).seg (by decide) hb2)
   have hup:=upTo_ge r2 k 1
   clear hr2 hc2 hb2
   go_wp2_with fail
   go_ret
   exact ⟨oa,oc,out,upTo r2 k 1,false && r2,rfl,HB2.out,hb02,HC2.out,by omega,fun _=>by omega,by omega,by rw [HG.out];exact HF.out⟩
  | true =>
   by_cases hlt:k < s.size
   ·have hltI:(k:Int) < (s.size:Int):=by omega
    have h0I:(0:Int) ≤ (k:Int):=by omega
    by_cases h34:((s[k]'hlt).toNat:Int) = 34
    ·have hq:s[k]'hlt = 34:=by apply UInt8.toNat.inj;have:(34:UInt8).toNat = 34:=rfl;omega
     have h34':(((s[k]'hlt).toNat:Int) == 34) = true:=by rw [h34];rfl
     have HQ:=hid hq
     clear hq
     go_wp2_with fail
     go_quiet (fail)
     go_wp2_with fail
     refine (need_any _ cb la ll lc s _ k true d (HC.out.drew nq) hs (by decide)).mono ?_;rintro e w2 ⟨⟨v2,rfl⟩,hb2,hc2⟩
     rw [quoteB] at hc2
     generalize hr2:(eatP [34] (tailB s k)).isSome = r2 at *
     have HF:=hid (HT.out.last (fun _=>Or.inr ⟨hlt,HQ.out⟩) hr2)
     have HC2:=hid hc2
     have hb02:But cb w w2:=(hbut.trans (But.drewN _ _)).trans hb2
     have HB2:=hid ((HB.out.same (below_drewN (Below.refl _ _) _)).but (HC.out.drew nq).seg (by decide) hb2)
     have hup:=upTo_ge r2 k 1
     clear hr2 hc2 hb2
     go_wp2_with fail
     go_ret
     exact ⟨oa,oc,out,upTo r2 k 1,true && r2,rfl,HB2.out,hb02,HC2.out,by omega,fun _=>by omega,by omega,by rw [HG.out];exact HF.out⟩
    ·have hq:s[k]'hlt ≠ 34:=by intro e;apply h34;rw [e];rfl
     have h34':(((s[k]'hlt).toNat:Int) == 34) = false:=by simp [h34]
     have HQ:=hid hq
     clear hq h34
     cases hp:plainI ((s[k]'hlt).toNat:Int) with
     | true =>
      have HP:=hid (HT.out.plain hlt (by rw [plain_eq];exact hp))
      go_wp2_with fail
      go_quiet (fail)
      generalize hw:wr.drewN nq = wa
      have hbw:Below wr.heap.size wr wa:=hw ▸ below_drewN (Below.refl _ _) nq
      have HCa:=hid (HC.out.same (hbw.block cb HC.out.seg.lt))
      have HBa:=hid (HB.out.same hbw)
      have hbuta:=hbut.trans (But.ofBelow hbw)
      clear hw hbw
      have p1:=HCa.out.seg.cell (j:=1) rfl
      have p2:=HCa.out.seg.cell (j:=2) rfl
      have p3:=HCa.out.seg.cell (j:=3) rfl
      have pf:=HCa.out.seg.frozen 2
      have pf3:=HCa.out.seg.frozen 3
      simp only [Nat.zero_add] at p1 p2 p3
      clear e1 e2 e3 ef ef3
      go_wp2_with fail
      go_quiet (exact (plain_any _ _).mono (fun _ _ h=>⟨h.1.trans (by rw [hp]),_,h.2⟩))
      go_wp2_with fail
      generalize hw:wa.drewN nq = wb
      have hbw:Below wa.heap.size wa wb:=hw ▸ below_drewN (Below.refl _ _) nq
      have HCb:=hid (HCa.out.same (hbw.block cb HCa.out.seg.lt))
      have HBb:=hid (HBa.out.same hbw)
      have hbutb:=hbuta.trans (But.ofBelow hbw)
      clear hw hbw
      have q1:=HCb.out.seg.cell (j:=1) rfl
      have q2:=HCb.out.seg.cell (j:=2) rfl
      have q3:=HCb.out.seg.cell (j:=3) rfl
      have qf:=HCb.out.seg.frozen 2
      have qf3:=HCb.out.seg.frozen 3
      simp only [Nat.zero_add] at q1 q2 q3
      have hzb:=hbutb.size
      go_region_law (refine step_append_by _ rfl (.tmp 49) (.tmp 59) rfl _ out w.heap.size (by simp [Act.eval]) (HBb.out.same (by repeat (first | exact Below.refl _ _ | apply Below.drew | (refine Below.alloc ?_ (by simp) _)))) _ [s[k]'hlt] wb.heap.size (by simp [Act.eval]) (show Bys _ _ _ _ from bys_one wb _ _ rfl) (by simp;omega) (by simp;omega) ?_;intro a5 c5 w5 hp5 hg5;have HG5:=hid hg5;have HP5:=hid hp5;clear hp5 hg5)
      all_goals
       have HC5:=hid (HCb.out.grew (by repeat (first | exact Below.refl _ _ | apply Below.drew | (refine Below.alloc ?_ (by simp) _))) HBb.out HG5.out)
       have hbut5:=hbutb.grew (by repeat (first | exact Below.refl _ _ | apply Below.drew | (refine Below.alloc ?_ (by simp) _))) HBb.out HG5.out
       have f2:=HC5.out.seg.cell (j:=2) rfl
       have ff:=HC5.out.seg.frozen 2
       simp only [Nat.zero_add] at f2
       clear p1 p2 p3 pf pf3 q1 q2 q3 qf qf3 HG5
       have HB5:=hid (show Bys (w5.setCell ⟨cb,2,none⟩ (.int .i64 ((k:Int) + 1))) w.heap.size (.slice a5 (out ++ [s[k]'hlt]).length c5) (out ++ [s[k]'hlt]) from (show Bys w5 w.heap.size (.slice a5 (out ++ [s[k]'hlt]).length c5) (out ++ [s[k]'hlt]) by simpa using HP5.out).but HC5.out.seg (by decide) ((But.refl _ _).setCell _ _))
       go_wp2_with fail
       go_roundg (gk - 1)
       case rel=>exact ⟨k + 1,out ++ [s[k]'hlt],true,by omega,by omega,by simp at hgk ⊢;omega,hid (by simpa using HC5.out.put (k + 1) (by omega)),hid (by simpa using HB5.out),by rw [List.length_append,List.length_singleton];omega,hid HP.out,hbut5.setCell _ _⟩
       case measure=>simp at hgk;omega
     | false =>
      have hpc:plainC (s[k]'hlt) = false:=by rw [plain_eq];exact hp
      by_cases h92:((s[k]'hlt).toNat:Int) = 92
      ·have hq92:s[k]'hlt = 92:=by apply UInt8.toNat.inj;have:(92:UInt8).toNat = 92:=rfl;omega
       have h92':(((s[k]'hlt).toNat:Int) == 92) = true:=by rw [h92];rfl
       have h92n:(((s[k]'hlt).toNat:Int) != 92) = false:=by rw [h92];rfl
       have HQ92:=hid hq92
       by_cases hsh:s.size - k < 3
       ·have hshI:(s.size:Int) - (k:Int) < 3:=by omega
        have HN:=hid (HT.out.short hlt hq92 hsh)
        clear hq92 hpc h92
        go_wp2_with fail
        go_quiet (fail)
        go_wp2_with fail
        go_quiet (exact (plain_any _ _).mono (fun _ _ h=>⟨h.1.trans (by rw [hp]),_,h.2⟩))
        go_wp2_with fail
        go_quiet (fail)
        go_wp2_with fail
        have HT2:=hid (show TSt G s k out false from HN.out)
        have HCk:=hid ((HC.out.drew (0)).putOk false)
        refine (need_any _ cb la ll lc s _ k false d ((show Cu _ cb (.slice la ll lc) s k false d from (HC.out.drew _).putOk false)) hs (by decide)).mono ?_;rintro e w2 ⟨⟨v2,rfl⟩,hb2,hc2⟩
        rw [quoteB] at hc2
        generalize hr2:(eatP [34] (tailB s k)).isSome = r2 at *
        have HF:=hid (HT2.out.last (fun e=>by cases e) hr2)
        have HC2:=hid hc2
        have hb02:But cb w w2:=((hbut.trans (But.drewN _ _)).setCell _ _).trans hb2
        have HB2:=hid (((HB.out.same (below_drewN (Below.refl _ _) _)).but (HC.out.drew _).seg (by decide) ((But.refl _ _).setCell 3 (.bool false))).but ((HC.out.drew _).putOk false).seg (by decide) hb2)
        have hup:=upTo_ge r2 k 1
        clear hr2 hc2 hb2 HCk
        go_wp2_with fail
        go_ret
        exact ⟨oa,oc,out,upTo r2 k 1,false && r2,rfl,HB2.out,hb02,HC2.out,by omega,fun _=>by omega,by omega,by rw [HG.out];exact HF.out⟩
       ·have hshI:¬ (s.size:Int) - (k:Int) < 3:=by omega
        have hd3:decide ((s.size:Int) - (k:Int) < 3) = false:=by simp;omega
        clear hpc h92 hq92
        go_wp2_with fail
        go_quiet (fail)
        go_wp2_with fail
        go_quiet (exact (plain_any _ _).mono (fun _ _ h=>⟨h.1.trans (by rw [hp]),_,h.2⟩))
        go_wp2_with fail
        go_quiet (fail)
        go_wp2_with fail
        have hk1:k + 1 < s.size:=by omega
        have hk2:k + 2 < s.size:=by omega
        have hk1I:(k:Int) + 1 < (s.size:Int):=by omega
        have hk2I:(k:Int) + 2 < (s.size:Int):=by omega
        have hk1Z:(0:Int) ≤ (k:Int) + 1:=by omega
        have hk2Z:(0:Int) ≤ (k:Int) + 2:=by omega
        go_quiet (exact (digit_any _ (by omega) (by have:=(s[k + 1]'hk1).toNat_lt;omega) _).mono (fun _ _ h=>⟨h.1,_,h.2⟩))
        have hAr:=hexI_range ((s[k + 1]'hk1).toNat:Int)
        generalize hA:hexI ((s[k + 1]'hk1).toNat:Int) = A at *
        go_wp2_with fail
        go_quiet (exact (digit_any _ (by omega) (by have:=(s[k + 2]'hk2).toNat_lt;omega) _).mono (fun _ _ h=>⟨h.1,_,h.2⟩))
        have hBr:=hexI_range ((s[k + 2]'hk2).toNat:Int)
        generalize hBB:hexI ((s[k + 2]'hk2).toNat:Int) = Bv at *
        obtain ⟨vv,hvv⟩:∃ vv:UInt8,(vv.toNat:Int) = (16 * A + Bv) % 256:=⟨((16 * A + Bv) % 256).toNat.toUInt8,by rw [u8_lt (by omega)];omega⟩
        have HTX:=hid (HT.out.hex hk2 HQ92.out hA.symm hBB.symm (v:=vv) (fun h1 h2=>by omega))
        clear hA hBB
        go_wp2_with fail
        rw [← hvv]
        refine (plain_any _ _).mono ?_;rintro e wb ⟨rfl,hwb⟩
        have hbw:Below wr.heap.size wr wb:=by rw [hwb];exact below_drewN (Below.refl _ _) _
        have HCb:=hid (HC.out.same (hbw.block cb HC.out.seg.lt))
        have HBb:=hid (HB.out.same hbw)
        have hbutb:=hbut.trans (But.ofBelow hbw)
        clear hwb hbw e1 e2 e3 ef ef3
        have qf3:=HCb.out.seg.frozen 3
        have q3:=HCb.out.seg.cell (j:=3) rfl
        simp only [Nat.zero_add] at q3
        have hzb:=hbutb.size
        obtain ⟨okk,hokk⟩:∃ b,b = (decide (0 ≤ A) && (decide (0 ≤ Bv) && !plainI (vv.toNat:Int))):=⟨_,rfl⟩
        rw [← hokk] at HTX
        have HOK:=hid hokk
        clear hokk
        have HCc:=hid (HCb.out.putOk okk)
        have HBc:=hid (HBb.out.but HCb.out.seg (by decide) ((But.refl _ _).setCell 3 (.bool okk)))
        have hbutc:=hbutb.setCell 3 (.bool okk)
        have hvv2:(vv.toNat:Int) = (vv.toNat:Int):=rfl
        generalize hpv:plainI (vv.toNat:Int) = pv at *
        by_cases hA0:0 ≤ A
        ·by_cases hB0:0 ≤ Bv
         ·have hok2:okk = !pv:=by rw [HOK.out];simp [hA0,hB0]
          subst hok2
          have hzc:=hbutc.size
          go_wp2_with (at_builtin;refine wpList_append_by _ rfl _ _ rfl _ out w.heap.size rfl (HBc.out.same ((Below.refl _ _).alloc (Nat.le_refl _) _)) _ [vv] wb.heap.size rfl (bys_at _ wb.heap.size (by simp) _ _ hvv.symm) (by simp;omega) (by simp;omega) ?_)
          intro a5 c5 w5 hp5 hg5
          have HC5:=hid (HCc.out.grew ((Below.refl _ _).alloc (Nat.le_refl _) _) HBc.out hg5)
          have hbut5:=hbutc.grew ((Below.refl _ _).alloc (Nat.le_refl _) _) HBc.out hg5
          have HP5:=hid hp5
          have f2:=HC5.out.seg.cell (j:=2) rfl
          have ff:=HC5.out.seg.frozen 2
          simp only [Nat.zero_add] at f2
          clear hp5 hg5 HCc HBc HCb HBb qf3 q3
          have HB5:=hid (show Bys (w5.setCell ⟨cb,2,none⟩ (.int .i64 ((k:Int) + 3))) w.heap.size (.slice a5 (out ++ [vv]).length c5) (out ++ [vv]) from (show Bys w5 w.heap.size (.slice a5 (out ++ [vv]).length c5) (out ++ [vv]) by simpa using HP5.out).but HC5.out.seg (by decide) ((But.refl _ _).setCell _ _))
          go_wp2_with fail
          go_roundg (gk - 1)
          case rel=>exact ⟨k + 3,out ++ [vv],!pv,by omega,by omega,by (cases pv <;> simp at hgk ⊢ <;> omega),hid (by simpa using HC5.out.put (k + 3) (by omega)),hid (by simpa using HB5.out),by rw [List.length_append,List.length_singleton];omega,hid HTX.out,hbut5.setCell _ _⟩
          case measure=>simp at hgk;omega
         ·have hok2:okk = false:=by rw [HOK.out];simp [hB0]
          subst hok2
          have hzc:=hbutc.size
          go_wp2_with (at_builtin;refine wpList_append_by _ rfl _ _ rfl _ out w.heap.size rfl (HBc.out.same ((Below.refl _ _).alloc (Nat.le_refl _) _)) _ [vv] wb.heap.size rfl (bys_at _ wb.heap.size (by simp) _ _ hvv.symm) (by simp;omega) (by simp;omega) ?_)
          intro a5 c5 w5 hp5 hg5
          have HC5:=hid (HCc.out.grew ((Below.refl _ _).alloc (Nat.le_refl _) _) HBc.out hg5)
          have hbut5:=hbutc.grew ((Below.refl _ _).alloc (Nat.le_refl _) _) HBc.out hg5
          have HP5:=hid hp5
          have f2:=HC5.out.seg.cell (j:=2) rfl
          have ff:=HC5.out.seg.frozen 2
          simp only [Nat.zero_add] at f2
          clear hp5 hg5 HCc HBc HCb HBb qf3 q3
          have HB5:=hid (show Bys (w5.setCell ⟨cb,2,none⟩ (.int .i64 ((k:Int) + 3))) w.heap.size (.slice a5 (out ++ [vv]).length c5) (out ++ [vv]) from (show Bys w5 w.heap.size (.slice a5 (out ++ [vv]).length c5) (out ++ [vv]) by simpa using HP5.out).but HC5.out.seg (by decide) ((But.refl _ _).setCell _ _))
          go_wp2_with fail
          go_roundg (gk - 1)
          case rel=>exact ⟨k + 3,out ++ [vv],false,by omega,by omega,by (cases pv <;> simp at hgk ⊢ <;> omega),hid (by simpa using HC5.out.put (k + 3) (by omega)),hid (by simpa using HB5.out),by rw [List.length_append,List.length_singleton];omega,hid HTX.out,hbut5.setCell _ _⟩
          case measure=>simp at hgk;omega
        ·have hok2:okk = false:=by rw [HOK.out];simp [hA0]
         subst hok2
         have hzc:=hbutc.size
         go_wp2_with (at_builtin;refine wpList_append_by _ rfl _ _ rfl _ out w.heap.size rfl (HBc.out.same ((Below.refl _ _).alloc (Nat.le_refl _) _)) _ [vv] wb.heap.size rfl (bys_at _ wb.heap.size (by simp) _ _ hvv.symm) (by simp;omega) (by simp;omega) ?_)
         intro a5 c5 w5 hp5 hg5
         have HC5:=hid (HCc.out.grew ((Below.refl _ _).alloc (Nat.le_refl _) _) HBc.out hg5)
         have hbut5:=hbutc.grew ((Below.refl _ _).alloc (Nat.le_refl _) _) HBc.out hg5
         have HP5:=hid hp5
         have f2:=HC5.out.seg.cell (j:=2) rfl
         have ff:=HC5.out.seg.frozen 2
         simp only [Nat.zero_add] at f2
         clear hp5 hg5 HCc HBc HCb HBb qf3 q3
         have HB5:=hid (show Bys (w5.setCell ⟨cb,2,none⟩ (.int .i64 ((k:Int) + 3))) w.heap.size (.slice a5 (out ++ [vv]).length c5) (out ++ [vv]) from (show Bys w5 w.heap.size (.slice a5 (out ++ [vv]).length c5) (out ++ [vv]) by simpa using HP5.out).but HC5.out.seg (by decide) ((But.refl _ _).setCell _ _))
         go_wp2_with fail
         go_roundg (gk - 1)
         case rel=>exact ⟨k + 3,out ++ [vv],false,by omega,by omega,by (cases pv <;> simp at hgk ⊢ <;> omega),hid (by simpa using HC5.out.put (k + 3) (by omega)),hid (by simpa using HB5.out),by rw [List.length_append,List.length_singleton];omega,hid HTX.out,hbut5.setCell _ _⟩
         case measure=>simp at hgk;omega
      ·have hq92:s[k]'hlt ≠ 92:=by intro e;apply h92;rw [e];rfl
       have h92':(((s[k]'hlt).toNat:Int) == 92) = false:=by simp [h92]
       have h92n:(((s[k]'hlt).toNat:Int) != 92) = true:=by simp [h92]
       have HN:=hid (HT.out.bad hlt hpc HQ.out hq92)
       clear hq92 hpc h92
       go_wp2_with fail
       go_quiet (fail)
       go_wp2_with fail
       go_quiet (exact (plain_any _ _).mono (fun _ _ h=>⟨h.1.trans (by rw [hp]),_,h.2⟩))
       go_wp2_with fail
       go_quiet (fail)
       go_wp2_with fail
       have HT2:=hid (show TSt G s k out false from HN.out)
       have HCk:=hid ((HC.out.drew (0)).putOk false)
       refine (need_any _ cb la ll lc s _ k false d ((show Cu _ cb (.slice la ll lc) s k false d from (HC.out.drew _).putOk false)) hs (by decide)).mono ?_;rintro e w2 ⟨⟨v2,rfl⟩,hb2,hc2⟩
       rw [quoteB] at hc2
       generalize hr2:(eatP [34] (tailB s k)).isSome = r2 at *
       have HF:=hid (HT2.out.last (fun e=>by cases e) hr2)
       have HC2:=hid hc2
       have hb02:But cb w w2:=((hbut.trans (But.drewN _ _)).setCell _ _).trans hb2
       have HB2:=hid (((HB.out.same (below_drewN (Below.refl _ _) _)).but (HC.out.drew _).seg (by decide) ((But.refl _ _).setCell 3 (.bool false))).but ((HC.out.drew _).putOk false).seg (by decide) hb2)
       have hup:=upTo_ge r2 k 1
       clear hr2 hc2 hb2 HCk
       go_wp2_with fail
       go_ret
       exact ⟨oa,oc,out,upTo r2 k 1,false && r2,rfl,HB2.out,hb02,HC2.out,by omega,fun _=>by omega,by omega,by rw [HG.out];exact HF.out⟩
   ·have hltI:¬ (k:Int) < (s.size:Int):=by omega
    have hd:decide ((k:Int) < (s.size:Int)) = false:=by simp;omega
    go_wp2_with fail
    go_quiet (fail)
    go_wp2_with fail
    refine (need_any _ cb la ll lc s _ k true d (HC.out.drew nq) hs (by decide)).mono ?_;rintro e w2 ⟨⟨v2,rfl⟩,hb2,hc2⟩
    rw [quoteB] at hc2
    generalize hr2:(eatP [34] (tailB s k)).isSome = r2 at *
    have HF:=hid (HT.out.last (fun _=>Or.inl (by omega)) hr2)
    have HC2:=hid hc2
    have hb02:But cb w w2:=(hbut.trans (But.drewN _ _)).trans hb2
    have HB2:=hid ((HB.out.same (below_drewN (Below.refl _ _) _)).but (HC.out.drew nq).seg (by decide) hb2)
    have hup:=upTo_ge r2 k 1
    clear hr2 hc2 hb2
    go_wp2_with fail
    go_ret
    exact ⟨oa,oc,out,upTo r2 k 1,true && r2,rfl,HB2.out,hb02,HC2.out,by omega,fun _=>by omega,by omega,by rw [HG.out];exact HF.out⟩
end Go.Proofs.YtopcgnjocklcoaaGreatDoor
