/- Package courierref: numbers and pieces that are taken from bytes. -/
import Derived.Test.YtopcgnjocklcoaaGreatDoorMDecA
namespace Go.Proofs.YtopcgnjocklcoaaGreatDoor
open Go.RowKit
def valN:List UInt8 → Nat
 | []=>0
 | b :: r=>b.toNat % 128 + 128 * valN r
theorem valN_append (a:List UInt8) (b:UInt8):valN (a ++ [b]) = valN a + b.toNat % 128 * 128 ^ a.length:=by
 induction a with
 | nil=>simp [valN]
 | cons x r ih =>
  rw [List.cons_append,valN,valN,ih,List.length_cons,Nat.pow_succ,Nat.mul_add,Nat.mul_left_comm 128,Nat.mul_comm 128 (128 ^ r.length)]
  omega
theorem valN_vint (n:Nat):valN (vint n) = n:=by
 induction n using Nat.strongRecOn with
 | _ n ih =>
  by_cases h:n < 128
  ·rw [vint_lt h]
   have:n.toUInt8.toNat = n:=by simp [Nat.toUInt8,UInt8.toNat_ofNat'];omega
   simp [valN,this];omega
  ·rw [vint_ge h]
   have hb:((n % 128 + 128).toUInt8).toNat = n % 128 + 128:=by simp [Nat.toUInt8,UInt8.toNat_ofNat'];omega
   rw [valN,hb,ih (n / 128) (by omega)];omega
theorem vint_shape (n:Nat):∃ a z,vint n = a ++ [z] ∧ (∀ x ∈ a,128 ≤ x.toNat) ∧ z.toNat < 128:=by
 induction n using Nat.strongRecOn with
 | _ n ih =>
  by_cases h:n < 128
  ·rw [vint_lt h]
   have:n.toUInt8.toNat = n:=by simp [Nat.toUInt8,UInt8.toNat_ofNat'];omega
   exact ⟨[],n.toUInt8,rfl,by simp,by omega⟩
  ·rw [vint_ge h]
   have hb:((n % 128 + 128).toUInt8).toNat = n % 128 + 128:=by simp [Nat.toUInt8,UInt8.toNat_ofNat'];omega
   obtain ⟨a,z,e,h1,h2⟩:=ih (n / 128) (by omega)
   refine ⟨(n % 128 + 128).toUInt8 :: a,z,by rw [e];rfl,fun x hx=>?_,h2⟩
   rcases List.mem_cons.1 hx with rfl | hx
   ·omega
   ·exact h1 x hx
theorem num_spec {L:List UInt8} {i:Nat} (hi:i < L.length) (hall:∀ x ∈ L.take i,128 ≤ x.toNat) (hlast:L[i].toNat < 128) (n:Nat) (hn:i < 10 → n = valN (L.take (i + 1)) % 18446744073709551616) (hn64:n < 18446744073709551616):takeV L = (match (decide (i < 10) && decide (vint n = L.take (i + 1))) with | true=>some (n,L.drop (i + 1)) | false=>none):=by
 by_cases hc:i < 10 ∧ vint n = L.take (i + 1)
 ·have:(decide (i < 10) && decide (vint n = L.take (i + 1))) = true:=by simp [hc.1,hc.2]
  rw [this]
  have h2:=takeV_vint n hn64 (L.drop (i + 1))
  rw [hc.2,List.take_append_drop] at h2
  exact h2
 ·have:(decide (i < 10) && decide (vint n = L.take (i + 1))) = false:=by
   rw [Bool.and_eq_false_iff]
   by_cases h:i < 10
   ·exact Or.inr (by rw [decide_eq_false_iff_not];exact fun e=>hc ⟨h,e⟩)
   ·exact Or.inl (by rw [decide_eq_false_iff_not];exact h)
  rw [this]
  cases e:takeV L with
  | none=>rfl
  | some x =>
   obtain ⟨m,r⟩:=x
   obtain ⟨h1,h2⟩:=takeV_some e
   obtain ⟨a,z,ev,ha,hz⟩:=vint_shape m
   have hL:L = a ++ z :: r:=by rw [h1,ev];simp
   have hai:a.length = i:=by
    rcases Nat.lt_trichotomy a.length i with h | h | h
    ·have hz2:z ∈ L.take i:=by
      rw [List.mem_iff_getElem?]
      refine ⟨a.length,?_⟩
      rw [List.getElem?_take,if_pos h,hL]
      simp
     have:=hall z hz2
     omega
    ·exact h
    ·have hg:L[i] ∈ a:=by
      have:L[i] = a[i]:=by
       simp only [hL]
       rw [List.getElem_append_left h]
      rw [this];exact List.getElem_mem _
     have:=ha _ hg
     omega
   have hT:L.take (i + 1) = vint m:=by
    rw [hL,ev,← hai,List.take_append]
    simp [List.take_of_length_le]
   have hlen:(vint m).length = i + 1:=by rw [ev];simp [hai]
   have h10:=vint_len10 m h2
   have hi10:i < 10:=by omega
   have hnm:n = m:=by
    rw [hn hi10,hT,valN_vint];omega
   exact absurd ⟨hi10,by rw [hnm,hT]⟩ hc
theorem num_none {L:List UInt8} (hall:∀ x ∈ L,128 ≤ x.toNat):takeV L = none:=by
 cases e:takeV L with
 | none=>rfl
 | some x =>
  obtain ⟨m,r⟩:=x
  obtain ⟨h1,h2⟩:=takeV_some e
  obtain ⟨a,z,ev,ha,hz⟩:=vint_shape m
  have:=hall z (by rw [h1,ev];simp)
  omega
theorem valN_step {L:List UInt8} {i:Nat} (hi:i < L.length):valN (L.take (i + 1)) = valN (L.take i) + L[i].toNat % 128 * 128 ^ i:=by
 rw [List.take_succ_eq_append_getElem hi,valN_append,List.length_take,Nat.min_eq_left (by omega)]
theorem mod_step (a q:Nat):(a % 18446744073709551616 + q % 18446744073709551616) % 18446744073709551616 = (a + q) % 18446744073709551616:=by omega
theorem RdC.sameB {w w':World} {v:Value} {L:List UInt8} {B:Nat} (h:RdC w v L) (hb:Below B w w') (hB:∀ k,v.ownBlock = some k → k < B):RdC w' v L:=⟨h.1.same hb (fun k hk _=>hB k hk),h.2⟩
structure TkD (w:World) (tb dlo:Nat) (v:Value) (R:List UInt8) (ok:Bool):Prop where
 seg:Seg w tb 124 0 [v,.bool ok]
 r:RdC w v R
 b:∀ k,v.ownBlock = some k → k < dlo
theorem TkD.below {w w':World} {tb dlo:Nat} {v:Value} {R:List UInt8} {ok:Bool} (h:TkD w tb dlo v R ok) (hb:Below w.heap.size w w') (hd:dlo ≤ tb):TkD w' tb dlo v R ok :=
 ⟨h.seg.same (hb.block tb h.seg.lt),h.r.sameB hb (fun k hk=>by have:=h.b k hk;have:=h.seg.lt;omega),h.b⟩
theorem TkD.putOk {w:World} {tb dlo:Nat} {v:Value} {R:List UInt8} {ok:Bool} (h:TkD w tb dlo v R ok) (hd:dlo ≤ tb) (b:Bool):TkD (w.setCell ⟨tb,1,none⟩ (.bool b)) tb dlo v R b :=
 ⟨h.seg.set 1 _,h.r.sameB (B:=dlo) ((Below.refl _ _).setCell (p:=⟨tb,1,none⟩) hd _) h.b,h.b⟩
theorem TkD.putB {w:World} {tb dlo:Nat} {v v':Value} {R R':List UInt8} {ok:Bool} (h:TkD w tb dlo v R ok) (hd:dlo ≤ tb) (hr:RdC w v' R') (hk:∀ k,v'.ownBlock = some k → k < dlo):TkD (w.setCell ⟨tb,0,none⟩ v') tb dlo v' R' ok :=
 ⟨h.seg.set 0 _,hr.sameB (B:=dlo) ((Below.refl _ _).setCell (p:=⟨tb,0,none⟩) hd _) hk,hk⟩
theorem RdC.tail {w:World} {b o c:Nat} {L:List UInt8} (h:RdC w (.slice (some ⟨b,o,none⟩) L.length c) L) (j:Nat) (hj:j ≤ L.length) (h0:0 < L.length):RdC w (.slice (some ⟨b,o + j,none⟩) (L.length - j) (c - j)) (L.drop j):=by
 obtain ⟨b',o',c',hv,_,hcell⟩:=h.1.at h0
 obtain ⟨⟨rfl,rfl⟩,rfl⟩:(b = b' ∧ o = o') ∧ c = c':=by simpa using hv
 obtain ⟨a,c2,e,hc⟩:=h.2
 obtain ⟨_,rfl⟩:some ⟨b,o,none⟩ = a ∧ c = c2:=by simpa using e
 have:=Rd.piece hcell j (L.length - j) (c - j) (by omega)
 rw [List.take_of_length_le (by rw [List.length_drop];exact Nat.le_refl _)] at this
 exact ⟨this,_,_,by rw [List.length_drop],by rw [List.length_drop];omega⟩
theorem RdC.head {w:World} {b o c:Nat} {L:List UInt8} (h:RdC w (.slice (some ⟨b,o,none⟩) L.length c) L) (j:Nat) (hj:j ≤ L.length) (h0:0 < L.length):RdC w (.slice (some ⟨b,o,none⟩) j c) (L.take j):=by
 obtain ⟨b',o',c',hv,_,hcell⟩:=h.1.at h0
 obtain ⟨⟨rfl,rfl⟩,rfl⟩:(b = b' ∧ o = o') ∧ c = c':=by simpa using hv
 obtain ⟨a,c2,e,hc⟩:=h.2
 obtain ⟨_,rfl⟩:some ⟨b,o,none⟩ = a ∧ c = c2:=by simpa using e
 have:=Rd.piece hcell 0 j c (by omega)
 exact ⟨this,_,_,by rw [List.length_take,Nat.min_eq_left hj],by rw [List.length_take];omega⟩
theorem TkD.tail {w:World} {tb dlo b o c:Nat} {L:List UInt8} {ok:Bool} (h:TkD w tb dlo (.slice (some ⟨b,o,none⟩) L.length c) L ok) (hd:dlo ≤ tb) (j:Nat) (hj:j ≤ L.length) (h0:0 < L.length) (r:Bool):TkD ((w.setCell ⟨tb,1,none⟩ (.bool r)).setCell ⟨tb,0,none⟩ (.slice (some ⟨b,o + j,none⟩) (L.length - j) (c - j))) tb dlo (.slice (some ⟨b,o + j,none⟩) (L.length - j) (c - j)) (L.drop j) r :=
 (h.putOk hd r).putB hd ((h.putOk hd r).r.tail j hj h0) (fun k hk=>h.b k hk)
theorem TkD.done {w:World} {tb dlo b o c:Nat} {L:List UInt8} {ok:Bool} (h:TkD w tb dlo (.slice (some ⟨b,o,none⟩) L.length c) L ok) (hd:dlo ≤ tb) (r:Bool):TkD ((w.setCell ⟨tb,1,none⟩ (.bool r)).setCell ⟨tb,0,none⟩ (.slice (some ⟨b,o,none⟩) 0 0)) tb dlo (.slice (some ⟨b,o,none⟩) 0 0) [] r :=
 (h.putOk hd r).putB hd ⟨Or.inr ⟨_,_,rfl,fun j u hu=>by simp at hu⟩,_,_,rfl,by simp⟩ (fun k hk=>h.b k hk)
def NumAns (ok ok':Bool) (T:Option (Nat × List UInt8)) (n:Nat) (R:List UInt8):Prop:=match ok' with | true=>ok = true ∧ T = some (n,R) | false=>ok = false ∨ T = none
def NumPost (w:World) (tb dlo:Nat) (L:List UInt8) (ok:Bool) (e:Ending) (w':World):Prop:=∃ (n:Nat) (a:Option Addr) (c:Nat) (R:List UInt8) (ok':Bool),e = .returned (.int .u64 n) ∧ n < 18446744073709551616 ∧ But tb w w' ∧ TkD w' tb dlo (.slice a R.length c) R ok' ∧ R.length ≤ L.length ∧ NumAns ok ok' (takeV L) n R
set_option maxRecDepth 100000 in
set_option maxHeartbeats 8000000 in
theorem tnumber_any (w:World) (tb dlo:Nat) (v:Value) (L:List UInt8) (ok:Bool) (h:TkD w tb dlo v L ok) (hd:dlo ≤ tb) (hl:L.length ≤ 1000) :
  Calls Tryz.prog 61 #[.pointer (some ⟨tb,0,none⟩)] w (NumPost w tb dlo L ok):=by
 obtain ⟨a,c,rfl,hc⟩:=h.r.2
 have H:=hid h
 clear h
 go_enter Tryz.func61,Tryz.ntmps61
 go_wp2_with fail
 go_loopg [3,4,5] L.length (fun gk n3 k4 x5 wr=>∃ (i acc:Nat),i + gk = L.length ∧ k4 = .int .i64 i ∧ n3 = .int .u64 acc ∧ acc < 18446744073709551616 ∧ Hid (i < 11 → acc = valN (L.take i) % 18446744073709551616) ∧ Hid (∀ x ∈ L.take i,128 ≤ x.toNat) ∧ Below w.heap.size w wr)
 case atStart=>exact ⟨0,0,by omega,rfl,rfl,by omega,hid (fun _=>by simp [valN]),hid (fun x hx=>by simp at hx),Below.refl _ _⟩
 case round =>
  obtain ⟨i,acc,hi,rfl,rfl,hacc,HA,HH,hbel⟩:=hrel
  have HR:=hid (H.out.below hbel hd)
  have c0:=HR.out.seg.cell (j:=0) rfl
  have c1:=HR.out.seg.cell (j:=1) rfl
  have f0:=HR.out.seg.frozen 0
  have f1:=HR.out.seg.frozen 1
  simp only [Nat.zero_add] at c0 c1
  by_cases hlt:i < L.length
  ·obtain ⟨b,o,c',hv,hb,hcell⟩:=HR.out.r.1.at (by omega)
   obtain ⟨rfl,rfl⟩:a = some ⟨b,o,none⟩ ∧ c = c':=by simpa using hv
   have hx:wr.cell? ⟨b,o + i,none⟩ = some (.int .u8 (L[i].toNat:Int)):=hcell i hlt
   have hbtb:b < dlo:=HR.out.b b rfl
   have HCC:=hid hcell
   clear hv hcell
   have hx255:L[i].toNat ≤ 255:=by have:=L[i].toNat_lt;omega
   have HVS:=hid (valN_step hlt)
   have HTK:=hid (show L.take (i + 1) = L.take i ++ [L[i]] from List.take_succ_eq_append_getElem hlt)
   have HNS:=hid (fun (h:L[i].toNat < 128)=>num_spec (L:=L) (i:=i) hlt HH.out h)
   obtain ⟨x,hxe⟩:∃ x,L[i].toNat = x:=⟨_,rfl⟩
   rw [hxe] at hx hx255 HVS HNS
   have HX:=hid hxe
   clear hxe
   have hp128:x % 128 < 128:=Nat.mod_lt _ (by decide)
   have hxm:(x:Int) % 128 = ((x % 128:Nat):Int):=by omega
   obtain ⟨p,HP⟩:∃ p,Hid (x % 128 = p):=⟨_,hid rfl⟩
   rw [HP.out] at hxm hp128
   have hpw:IntKind.u64.wrap (p:Int) = (p:Int):=by rw [IntKind.wrap_u64];omega
   obtain ⟨acc',HA',hacc',hshift⟩:∃ acc':Nat,Hid (i + 1 < 11 → acc' = valN (L.take (i + 1)) % 18446744073709551616) ∧ acc' < 18446744073709551616 ∧ ∃ q:Nat,q < 18446744073709551616 ∧ Op.shift BinOp.shl IntKind.u64 (p:Int) IntKind.i64 (7 * (i:Int)) = pure (.int .u64 (q:Int)) ∧ IntKind.u64.wrap ((acc:Int) + (q:Int)) = (acc':Int):=by
    by_cases hi9:i ≤ 9
    ·refine ⟨(acc + p * 128 ^ i % 18446744073709551616) % 18446744073709551616,hid (fun _=>?_),Nat.mod_lt _ (by decide),p * 128 ^ i % 18446744073709551616,Nat.mod_lt _ (by decide),?_,?_⟩
     ·rw [HA.out (by omega),HVS.out,HP.out,mod_step]
     ·have e:=shl128 p i
      have h0:¬ (7 * (i:Int)) < 0:=by omega
      have ht:(7 * (i:Int)).toNat = 7 * i:=by omega
      have hm:min (7 * i) 64 = 7 * i:=by omega
      unfold Op.shift
      rw [if_neg h0]
      simp only [IntKind.bits,ht,hm,e]
      all_goals rfl
     ·rw [IntKind.wrap_u64];omega
    ·refine ⟨acc,hid (fun h=>by omega),hacc,0,by decide,shl_bigP _ _ (by omega),?_⟩
     rw [IntKind.wrap_u64];omega
   obtain ⟨q,hq,hs1,hadd⟩:=hshift
   have hwi:IntKind.i64.wrap (7 * (i:Int)) = 7 * (i:Int):=by rw [IntKind.wrap_i64];omega
   by_cases hgo:x < 128
   ·have hgoI:(x:Int) < 128:=by omega
    have HN:=hid (HNS.out hgo acc' (fun h=>HA'.out (by omega)) hacc')
    have b1:(0:Int) ≤ (i:Int) + 1:=by omega
    have b2:(i:Int) + 1 ≤ (L.length:Int):=by omega
    have hwrp:IntKind.i64.wrap ((i:Int) + 1) = (i:Int) + 1:=by rw [IntKind.wrap_i64];omega
    go_wp2_with fail
    refine (refSmall_any wr wr.heap.size _ [] acc' (World.ownsRow_nil _ _ _ _) hacc' (by simp) (Nat.le_refl _)).mono ?_;rintro e w1 ⟨a1,ca1,rfl,hb1,hg1⟩
    have hbe1:Below wr.heap.size wr w1:=hg1.below (fun k hk=>by cases hk) (Nat.le_refl _)
    simp only [List.nil_append] at hb1 ⊢
    have HB1:=hid hb1
    have hbel1:Below w.heap.size w w1:=hbel.trans (hbe1.mono hbel.size)
    have HR1:=hid (HR.out.below hbe1 hd)
    have hv10:=vint_len10 acc' hacc'
    clear c0 c1 f0 f1 hb1 hg1 hx
    have c0:=HR1.out.seg.cell (j:=0) rfl
    have c1':=HR1.out.seg.cell (j:=1) rfl
    have f0:=HR1.out.seg.frozen 0
    have f1:=HR1.out.seg.frozen 1
    simp only [Nat.zero_add] at c0 c1'
    cases ok with
    | false =>
     by_cases hcc:c = i + 1
     ·have hLL:L.length = i + 1:=by omega
      have HDR:=hid (show L.drop (i + 1) = [] from List.drop_eq_nil_of_le (by omega))
      subst hcc
      go_wp2_with fail
      go_ret
      unfold NumPost
      exact ⟨acc',some ⟨b,o,none⟩,0,[],false,rfl,hacc',((But.ofBelow hbel1).setCell _ _).setCell _ _,HR1.out.done hd false,by simp,Or.inl rfl⟩
     ·have HDL:=hid (show (L.drop (i + 1)).length = L.length - (i + 1) from List.length_drop)
      go_wp2_with fail
      go_ret
      unfold NumPost
      exact ⟨acc',some ⟨b,o + (i + 1),none⟩,c - (i + 1),L.drop (i + 1),false,rfl,hacc',((But.ofBelow hbel1).setCell _ _).setCell _ _,by rw [HDL.out];exact HR1.out.tail hd (i + 1) (by omega) (by omega) false,by rw [HDL.out];omega,Or.inl rfl⟩
    | true =>
     by_cases hi10:i < 10
     ·have hi10I:(i:Int) < 10:=by omega
      have HHD:=hid (HR1.out.r.head (i + 1) (by omega) (by omega))
      have HTL:=hid (show (L.take (i + 1)).length = i + 1 by rw [List.length_take];omega)
      go_wp2_with fail
      refine (sameBytes_any w1 _ _ (vint acc') (L.take (i + 1)) HB1.out.rd HHD.out.1 (by omega) (by rw [HTL.out];omega)).mono ?_;rintro e w2 ⟨rfl,nn,rfl⟩
      have hbe2:Below w1.heap.size w1 (w1.drewN nn):=below_drewN (Below.refl _ _) nn
      have hbel2:Below w.heap.size w (w1.drewN nn):=hbel1.trans (hbe2.mono hbel1.size)
      have HR2:=hid (HR1.out.below hbe2 hd)
      have HN2:=hid (show takeV L = (match decide (vint acc' = L.take (i + 1)) with | true=>some (acc',L.drop (i + 1)) | false=>none) from by rw [HN.out,show decide (i < 10) = true by simpa using hi10,Bool.true_and])
      generalize decide (vint acc' = L.take (i + 1)) = r at *
      clear c0 c1' f0 f1
      have c0:=HR2.out.seg.cell (j:=0) rfl
      have c1':=HR2.out.seg.cell (j:=1) rfl
      have f0:=HR2.out.seg.frozen 0
      have f1:=HR2.out.seg.frozen 1
      simp only [Nat.zero_add] at c0 c1'
      generalize w1.drewN nn = w2 at *
      have HANS:=hid (show NumAns true r (takeV L) acc' (L.drop (i + 1)) from by rw [HN2.out];cases r <;> simp [NumAns])
      by_cases hcc:c = i + 1
      ·have hLL:L.length = i + 1:=by omega
       have HDR:=hid (show L.drop (i + 1) = [] from List.drop_eq_nil_of_le (by omega))
       subst hcc
       go_wp2_with fail
       go_ret
       unfold NumPost
       exact ⟨acc',some ⟨b,o,none⟩,0,[],r,rfl,hacc',((But.ofBelow hbel2).setCell _ _).setCell _ _,HR2.out.done hd r,by simp,(HDR.out ▸ HANS.out)⟩
      ·have HDL:=hid (show (L.drop (i + 1)).length = L.length - (i + 1) from List.length_drop)
       go_wp2_with fail
       go_ret
       unfold NumPost
       exact ⟨acc',some ⟨b,o + (i + 1),none⟩,c - (i + 1),L.drop (i + 1),r,rfl,hacc',((But.ofBelow hbel2).setCell _ _).setCell _ _,by rw [HDL.out];exact HR2.out.tail hd (i + 1) (by omega) (by omega) r,by rw [HDL.out];omega,HANS.out⟩
     ·have hi10I:¬ (i:Int) < 10:=by omega
      have hi10D:decide ((i:Int) < 10) = false:=by simpa using hi10I
      have HN2:=hid (show takeV L = none from by rw [HN.out,show decide (i < 10) = false by simpa using hi10,Bool.false_and])
      by_cases hcc:c = i + 1
      ·have hLL:L.length = i + 1:=by omega
       have HDR:=hid (show L.drop (i + 1) = [] from List.drop_eq_nil_of_le (by omega))
       subst hcc
       go_wp2_with fail
       go_ret
       unfold NumPost
       exact ⟨acc',some ⟨b,o,none⟩,0,[],false,rfl,hacc',((But.ofBelow hbel1).setCell _ _).setCell _ _,HR1.out.done hd false,by simp,Or.inr HN2.out⟩
      ·have HDL:=hid (show (L.drop (i + 1)).length = L.length - (i + 1) from List.length_drop)
       go_wp2_with fail
       go_ret
       unfold NumPost
       exact ⟨acc',some ⟨b,o + (i + 1),none⟩,c - (i + 1),L.drop (i + 1),false,rfl,hacc',((But.ofBelow hbel1).setCell _ _).setCell _ _,by rw [HDL.out];exact HR1.out.tail hd (i + 1) (by omega) (by omega) false,by rw [HDL.out];omega,Or.inr HN2.out⟩
   ·have hgoI:¬ (x:Int) < 128:=by omega
    have HH':=hid (show ∀ y ∈ L.take (i + 1),128 ≤ y.toNat from fun y hy=>by
     rw [HTK.out] at hy
     rcases List.mem_append.1 hy with hy | hy
     ·exact HH.out y hy
     ·have:y = L[i]:=by simpa using hy
      rw [this,HX.out];omega)
    go_wp2_with fail
    go_roundg (gk - 1)
    case rel=>exact ⟨i + 1,acc',by omega,by go_num,rfl,hacc',HA',HH',hbel⟩
    case measure=>omega
  ·have HN:=hid (num_none (show ∀ x ∈ L,128 ≤ x.toNat from fun x hx=>HH.out x (by rw [List.take_of_length_le (by omega)];exact hx)))
   go_wp2_with fail
   go_ret
   unfold NumPost
   exact ⟨0,a,c,L,false,rfl,by omega,(But.ofBelow hbel).setCell _ _,HR.out.putOk hd false,Nat.le_refl _,Or.inr HN.out⟩
end Go.Proofs.YtopcgnjocklcoaaGreatDoor
namespace Go.Proofs.YtopcgnjocklcoaaGreatDoor
open Go.RowKit
def SomeAns (ok ok':Bool) (T:Option (List UInt8 × List UInt8)) (V R:List UInt8):Prop:=match ok' with | true=>ok = true ∧ T = some (V,R) | false=>ok = false ∨ T = none
def SomePost (w:World) (tb dlo:Nat) (L:List UInt8) (ok:Bool) (e:Ending) (w':World):Prop:=∃ (a:Option Addr) (c:Nat) (V:List UInt8) (a2:Option Addr) (c2:Nat) (R:List UInt8) (ok':Bool),e = .returned (.slice a V.length c) ∧ But tb w w' ∧ TkD w' tb dlo (.slice a2 R.length c2) R ok' ∧ RdC w' (.slice a V.length c) V ∧ (∀ k,(Value.slice a V.length c).ownBlock = some k → k < dlo) ∧ V.length + R.length ≤ L.length ∧ (ok' = false → V = []) ∧ SomeAns ok ok' (takeC L) V R
theorem rdC_nil (w:World):RdC w (.slice none ([]:List UInt8).length 0) []:=⟨Or.inl ⟨rfl,rfl⟩,none,0,rfl,by simp⟩
theorem rdC_none (w:World) (a:Addr) (c:Nat):RdC w (.slice (some a) ([]:List UInt8).length c) []:=⟨Or.inr ⟨_,_,rfl,fun j u hu=>by simp at hu⟩,_,_,rfl,by simp⟩
set_option maxRecDepth 100000 in
set_option maxHeartbeats 4000000 in
theorem tsome_any (w:World) (tb dlo:Nat) (v:Value) (L:List UInt8) (ok:Bool) (h:TkD w tb dlo v L ok) (hd:dlo ≤ tb) (hl:L.length ≤ 1000) :
  Calls Tryz.prog 106 #[.pointer (some ⟨tb,0,none⟩)] w (SomePost w tb dlo L ok):=by
 have H:=hid h
 clear h
 go_enter Tryz.func106,Tryz.ntmps106
 go_wp2_with fail
 refine (tnumber_any w tb dlo v L ok H.out hd hl).mono ?_;rintro e w1 ⟨n,a,c,R,ok1,rfl,hn,hbut,hT,hRl,hans⟩
 have HT:=hid hT
 have HAN:=hid hans
 have c0:=hT.seg.cell (j:=0) rfl
 have c1:=hT.seg.cell (j:=1) rfl
 have f0:=hT.seg.frozen 0
 have f1:=hT.seg.frozen 1
 simp only [Nat.zero_add] at c0 c1
 clear hT hans
 cases ok1 with
 | false =>
  have HF:=hid (show SomeAns ok false (takeC L) [] R from by
   rcases HAN.out with h | h
   ·exact Or.inl h
   ·exact Or.inr (by unfold takeC;rw [h];rfl))
  go_wp2_with fail
  go_ret
  unfold SomePost
  exact ⟨none,0,[],a,c,R,false,rfl,hbut.setCell _ _,HT.out.putOk hd false,rdC_nil _,fun k hk=>by simp [Value.ownBlock] at hk,by simpa using hRl,fun _=>rfl,HF.out⟩
 | true =>
  have hRlen:IntKind.u64.wrap (R.length:Int) = (R.length:Int):=by rw [IntKind.wrap_u64];omega
  by_cases hnl:n ≤ R.length
  ·have hnlI:¬ (R.length:Int) < (n:Int):=by omega
   have hnlD:decide ((R.length:Int) < (n:Int)) = false:=by simpa using hnlI
   have HF:=hid (show SomeAns ok true (takeC L) (R.take n) (R.drop n) from ⟨HAN.out.1,by unfold takeC;rw [HAN.out.2];simp [hnl]⟩)
   obtain ⟨hR1,a',c',hac,hRc⟩:=HT.out.r
   obtain ⟨rfl,rfl⟩:a = a' ∧ c = c':=by simpa using hac
   clear hac
   rcases hR1 with ⟨hnil,hRn⟩ | ⟨ad,c'',hsome,hcells⟩
   ·obtain ⟨rfl,rfl⟩:a = none ∧ c = 0:=by
     subst hRn;simpa using hnil
    subst hRn
    obtain rfl:n = 0:=by simpa using hnl
    go_wp2_with fail
    go_ret
    unfold SomePost
    exact ⟨none,0,[],none,0,[],true,rfl,hbut.setCell _ _,HT.out.putB hd (rdC_nil _) (fun k hk=>by simp [Value.ownBlock] at hk),rdC_nil _,fun k hk=>by simp [Value.ownBlock] at hk,by simp,(fun h=>by cases h),by simpa using HF.out⟩
   ·obtain ⟨rfl,rfl⟩:a = some ad ∧ c = c'':=by simpa using hsome
    clear hsome
    have HB:=hid (fun k (hk:(Value.slice (some ad) R.length c).ownBlock = some k)=>HT.out.b k hk)
    by_cases hR0:R.length = 0
    ·have hRn:R = []:=List.eq_nil_of_length_eq_zero hR0
     subst hRn
     obtain rfl:n = 0:=by simpa using hnl
     by_cases hc0:c = 0
     ·subst hc0
      go_wp2_with fail
      go_ret
      unfold SomePost
      exact ⟨some ad,0,[],some ad,0,[],true,rfl,hbut.setCell _ _,HT.out.putB hd (rdC_none _ _ _) HB.out,rdC_none _ _ _,HB.out,by simp,(fun h=>by cases h),by simpa using HF.out⟩
     ·go_wp2_with fail
      go_ret
      unfold SomePost
      exact ⟨some ad,c,[],_,c,[],true,rfl,hbut.setCell _ _,HT.out.putB hd (rdC_none _ _ _) (fun k hk=>HB.out k (by simpa [Value.ownBlock] using hk)),rdC_none _ _ _,HB.out,by simp,(fun h=>by cases h),by simpa using HF.out⟩
    ·obtain ⟨b,o,c3,hv3,hbb,hcell⟩:=HT.out.r.1.at (by omega)
     obtain ⟨rfl,rfl⟩:ad = ⟨b,o,none⟩ ∧ c = c3:=by simpa using hv3
     have HL1:=hid (show (R.take n).length = n by rw [List.length_take];omega)
     have HL2:=hid (show (R.drop n).length = R.length - n from List.length_drop)
     have HP1:=hid (HT.out.r.head n hnl (by omega))
     have HP2:=hid (HT.out.r.tail n hnl (by omega))
     have hdb:b < dlo:=HB.out b rfl
     clear hv3 hcell hcells
     by_cases hcc:c = n
     ·have HRn:=hid (show R.drop n = [] from List.drop_eq_nil_of_le (by omega))
      have hz:R.length = n:=by omega
      have HPX:=hid (HP1.out.sameB (B:=dlo) ((Below.refl dlo w1).setCell (p:=⟨tb,0,none⟩) hd (.slice (some ⟨b,o,none⟩) 0 0)) (fun k hk=>by have e:b = k:=(by simpa [Value.ownBlock] using hk);omega))
      subst hcc
      go_wp2_with fail
      go_ret
      unfold SomePost
      refine ⟨some ⟨b,o,none⟩,c,R.take c,some ⟨b,o,none⟩,0,[],true,by rw [HL1.out];rfl,hbut.setCell _ _,HT.out.putB hd (rdC_none _ _ _) (fun k hk=>HB.out k hk),by rw [HL1.out];exact HPX.out,fun k hk=>HB.out k hk,by rw [HL1.out];simp;omega,(fun h=>by cases h),?_⟩
      have:=HF.out
      rw [HRn.out] at this
      exact this
     ·have HPX:=hid (HP1.out.sameB (B:=dlo) ((Below.refl dlo w1).setCell (p:=⟨tb,0,none⟩) hd (.slice (some ⟨b,o + n,none⟩) (R.length - n) (c - n))) (fun k hk=>by have e:b = k:=(by simpa [Value.ownBlock] using hk);omega))
      go_wp2_with fail
      go_ret
      unfold SomePost
      refine ⟨some ⟨b,o,none⟩,c,R.take n,some ⟨b,o + n,none⟩,c - n,R.drop n,true,by rw [HL1.out];rfl,hbut.setCell _ _,?_,by rw [HL1.out];exact HPX.out,fun k hk=>HB.out k hk,by rw [HL1.out,HL2.out];omega,(fun h=>by cases h),HF.out⟩
      rw [HL2.out]
      exact HT.out.putB hd HP2.out (fun k hk=>HB.out k hk)
  ·have hnlI:(R.length:Int) < (n:Int):=by omega
   have HF:=hid (show SomeAns ok false (takeC L) [] R from Or.inr (by unfold takeC;rw [HAN.out.2];simp [hnl]))
   go_wp2_with fail
   go_ret
   unfold SomePost
   exact ⟨none,0,[],a,c,R,false,rfl,hbut.setCell _ _,HT.out.putOk hd false,rdC_nil _,fun k hk=>by simp [Value.ownBlock] at hk,by simpa using hRl,fun _=>rfl,HF.out⟩
def hexLit:ByteArray:=ByteArray.mk #[48,49,50,51,52,53,54,55,56,57,97,98,99,100,101,102]
theorem hexR_at (k:Nat) (h:k ≤ 15):(hexLit.extract k (k + 1)).toList = [hexD k]:=by
 have all:∀ a:Fin 16,(hexLit.extract a.val (a.val + 1)).data.toList = [hexD a.val]:=by decide +kernel
 rw [ByteArray.toList_eq]
 exact all ⟨k,by omega⟩
theorem slashD:(ByteArray.mk #[92]).toList = [92]:=by rw [ByteArray.toList_eq]
theorem quoteD:(ByteArray.mk #[34]).toList = [34]:=by rw [ByteArray.toList_eq]
theorem app_list (a b:ByteArray):(a ++ b).toList = a.toList ++ b.toList:=by rw [ByteArray.toList_eq,ByteArray.toList_eq,ByteArray.toList_eq];simp
set_option maxRecDepth 100000 in
set_option maxHeartbeats 4000000 in
theorem written_any (w:World) (v:Value) (L:List UInt8) (h:RdC w v L) (hl:L.length ≤ 1000) :
  Calls Tryz.prog 64 #[v] w fun e w'=>∃ t:ByteArray,e = .returned (.string t) ∧ Below w.heap.size w w' ∧ t.toList = textD L:=by
 obtain ⟨a,c,rfl,hc⟩:=h.2
 have H:=hid h
 clear h
 go_enter Tryz.func64,Tryz.ntmps64
 go_wp2_with fail
 go_loopg [3,4,5,6] L.length (fun gk s3 i4 x5 x6 wr=>∃ (i:Nat) (S:ByteArray),i + gk = L.length ∧ s3 = .string S ∧ i4 = .int .i64 i ∧ Hid (S.toList = 34 :: (L.take i).flatMap letD) ∧ S.size ≤ 1 + 3 * i ∧ Below w.heap.size w wr)
 case atStart=>exact ⟨0,ByteArray.mk #[34],by omega,rfl,rfl,hid (by rw [quoteD];simp),by decide,Below.refl _ _⟩
 case round =>
  obtain ⟨i,S,hi,rfl,rfl,HS,hSs,hbel⟩:=hrel
  have HR:=hid (show RdC wr _ L from ⟨H.out.1.later hbel,H.out.2⟩)
  by_cases hlt:i < L.length
  ·obtain ⟨b,o,c',hv,hb,hcell⟩:=HR.out.1.at (by omega)
   obtain ⟨rfl,rfl⟩:a = some ⟨b,o,none⟩ ∧ c = c':=by simpa using hv
   have hx:wr.cell? ⟨b,o + i,none⟩ = some (.int .u8 (L[i].toNat:Int)):=hcell i hlt
   have HPC:=hid (show Rd wr (.slice (some ⟨b,o + i,none⟩) 1 (c - i)) [L[i]] from by
    have h1:=Rd.piece hcell i 1 (c - i) (by omega)
    rw [show (L.drop i).take 1 = [L[i]] from by rw [List.drop_eq_getElem_cons hlt];rfl] at h1
    exact h1)
   clear hv hcell
   have HST:=hid (show (L.take (i + 1)).flatMap letD = (L.take i).flatMap letD ++ letD L[i] from by rw [List.take_succ_eq_append_getElem hlt,List.flatMap_append];simp)
   have hx255:L[i].toNat ≤ 255:=by have:=L[i].toNat_lt;omega
   have hpl:=plain_eq L[i]
   generalize L[i] = x at *
   have b1:(0:Int) ≤ (i:Int) + 1:=by omega
   have b2:(i:Int) + 1 ≤ (L.length:Int):=by omega
   have hwrp:IntKind.i64.wrap ((i:Int) + 1) = (i:Int) + 1:=by rw [IntKind.wrap_i64];omega
   cases hp:plainC x with
   | true =>
    have HLD:=hid (show letD x = [x] by unfold letD;rw [hp];rfl)
    have hpI:plainI (x.toNat:Int) = true:=by rw [← hpl,hp]
    have hcv:=HPC.out.conv
    have hov:¬ 9223372036854775807 < S.size + 1:=by omega
    have hsz1:(strOf [x]).size = 1:=rfl
    have HAP:=hid (app_list S (strOf [x]))
    have HAS:=hid (ByteArray.size_append (a:=S) (b:=strOf [x]))
    have HSO:=hid (strOf_toList [x])
    generalize strOf [x] = sx at *
    clear hpl hp
    go_wp2_with fail
    refine (plain_any _ _).mono ?_;rintro e w1 ⟨rfl,hw1⟩
    subst hw1
    rw [hpI]
    go_wp2_with fail
    go_roundg (gk - 1)
    case rel=>exact ⟨i + 1,S ++ sx,by omega,rfl,by go_num,hid (by rw [HAP.out,HS.out,HST.out,HLD.out,HSO.out];rfl),by rw [HAS.out];omega,hbel⟩
    case measure=>omega
   | false =>
    have HLD:=hid (show letD x = [92,hexD (x.toNat / 16),hexD (x.toNat % 16)] by unfold letD;rw [hp];rfl)
    have hpI:plainI (x.toNat:Int) = false:=by rw [← hpl,hp]
    obtain ⟨hi',hhi⟩:∃ k,x.toNat / 16 = k:=⟨_,rfl⟩
    obtain ⟨lo',hlo⟩:∃ k,x.toNat % 16 = k:=⟨_,rfl⟩
    have g1:(x.toNat:Int) / 16 = (hi':Int):=by omega
    have g2:(x.toNat:Int) % 16 = (lo':Int):=by omega
    have g3:hi' ≤ 15:=by omega
    have g4:lo' ≤ 15:=by omega
    have g5:IntKind.u8.wrap ((hi':Int) + 1) = (hi':Int) + 1:=by rw [IntKind.wrap_u8];omega
    have g6:IntKind.u8.wrap ((lo':Int) + 1) = (lo':Int) + 1:=by rw [IntKind.wrap_u8];omega
    rw [hhi,hlo] at HLD
    have HH1:=hid (hexR_at hi' g3)
    have HH2:=hid (hexR_at lo' g4)
    have hz1:((ByteArray.mk #[48,49,50,51,52,53,54,55,56,57,97,98,99,100,101,102]).extract hi' (hi' + 1)).size = 1:=by rw [← size_list];show (hexLit.extract hi' (hi' + 1)).toList.length = 1;rw [HH1.out];rfl
    have hz2:((ByteArray.mk #[48,49,50,51,52,53,54,55,56,57,97,98,99,100,101,102]).extract lo' (lo' + 1)).size = 1:=by rw [← size_list];show (hexLit.extract lo' (lo' + 1)).toList.length = 1;rw [HH2.out];rfl
    have hov1:¬ 9223372036854775807 < S.size + 1:=by omega
    have hov2:¬ 9223372036854775807 < S.size + 1 + 1:=by omega
    have hov3:¬ 9223372036854775807 < S.size + 1 + 1 + 1:=by omega
    clear hpl hp hhi hlo
    go_wp2_with fail
    refine (plain_any _ _).mono ?_;rintro e w1 ⟨rfl,hw1⟩
    subst hw1
    rw [hpI]
    go_wp2_with fail
    (first | (go_region) | fail)
    all_goals
     have HZ1:=hid hz1
     have HZ2:=hid hz2
     clear hz1 hz2
     go_wp2_with fail
     go_roundg (gk - 1)
     case rel=>exact ⟨i + 1,S ++ ByteArray.mk #[92] ++ (ByteArray.mk #[48,49,50,51,52,53,54,55,56,57,97,98,99,100,101,102]).extract hi' (hi' + 1) ++ (ByteArray.mk #[48,49,50,51,52,53,54,55,56,57,97,98,99,100,101,102]).extract lo' (lo' + 1),by omega,rfl,by go_num,hid (by
      rw [app_list,app_list,app_list,HS.out,HST.out,HLD.out,slashD,show ((ByteArray.mk #[48,49,50,51,52,53,54,55,56,57,97,98,99,100,101,102]).extract hi' (hi' + 1)).toList = [hexD hi'] from HH1.out,show ((ByteArray.mk #[48,49,50,51,52,53,54,55,56,57,97,98,99,100,101,102]).extract lo' (lo' + 1)).toList = [hexD lo'] from HH2.out];simp),by
      rw [ByteArray.size_append,ByteArray.size_append,ByteArray.size_append,HZ1.out,HZ2.out];show S.size + 1 + 1 + 1 ≤ _;omega,hbel.drew⟩
     case measure=>omega
  ·have HE:=hid (show L.take i = L from List.take_of_length_le (by omega))
   have hov:¬ 9223372036854775807 < S.size + 1:=by omega
   go_wp2_with fail
   go_ret
   exact ⟨S ++ ByteArray.mk #[34],rfl,hbel,by rw [app_list,HS.out,quoteD,HE.out];rfl⟩
end Go.Proofs.YtopcgnjocklcoaaGreatDoor
