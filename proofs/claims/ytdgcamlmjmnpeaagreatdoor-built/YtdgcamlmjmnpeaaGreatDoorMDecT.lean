/- Package numbers: Take. -/
import Derived.Test.YtdgcamlmjmnpeaaGreatDoorMDecA
namespace Go.Proofs.YtdgcamlmjmnpeaaGreatDoor
open Go.RowKit
set_option maxRecDepth 100000 in
set_option maxHeartbeats 8000000 in
theorem numTake_any (w:World) (v:Value) (L:List UInt8) (h:RdC w v L) (hl:L.length ≤ 1000) :
  Calls Tryz.prog 142 #[v] w (TakePost w v L):=by
 obtain ⟨hR,a,c,rfl,hc⟩:=h
 unfold TakePost
 have HR:=hid hR
 clear hR
 go_enter Tryz.func142,Tryz.ntmps142
 go_wp2_with fail
 go_loopg [5,6,7,8,9,12] L.length (fun gk n5 i6 b7 p8 s9 i12 wr=>∃ (i acc:Nat),i + gk = L.length ∧ i12 = .int .i64 i ∧ n5 = .int .u64 acc ∧ acc < 18446744073709551616 ∧ Hid (TkAt L i acc) ∧ Below w.heap.size w wr)
 case atStart=>exact ⟨0,0,by omega,rfl,rfl,by omega,hid (TkAt.begin L),Below.refl _ _⟩
 case round =>
  obtain ⟨i,acc,hi,rfl,rfl,hacc,HT,hbel⟩:=hrel
  by_cases hlt:i < L.length
  ·obtain ⟨b,o,c',hv,hb,hcell⟩:=(HR.out.later hbel).at (by omega)
   obtain ⟨rfl,rfl⟩:a = some ⟨b,o,none⟩ ∧ c = c':=by simpa using hv
   have hx:wr.cell? ⟨b,o + i,none⟩ = some (.int .u8 (L[i].toNat:Int)):=hcell i hlt
   have HCC:=hid hcell
   clear hv hcell
   obtain ⟨x,hxe⟩:∃ x,L[i].toNat = x:=⟨_,rfl⟩
   have HX:=hid hxe
   rw [hxe] at hx
   have hx255:x ≤ 255:=by rw [← hxe];have:=L[i].toNat_lt;omega
   clear hxe
   have he1:=andNot128 x hx255
   have hp128:x % 128 < 128:=Nat.mod_lt _ (by decide)
   obtain ⟨p,HP⟩:∃ p,Hid (x % 128 = p):=⟨_,hid rfl⟩
   rw [HP.out] at he1 hp128
   by_cases hi9:i ≤ 9
   ·have he2:=shl128 p i
    by_cases hov:18446744073709551616 ≤ p * 128 ^ i
    ·have HN:=hid (HT.out.over hlt (by rw [HX.out,HP.out];exact hov))
     have he3:(((p * 128 ^ i % 18446744073709551616:Nat):Int) / 2 ^ (7 * i) != (p:Int)) = true:=by
      rw [shr128]
      have:=(over_iff p i).2 hov
      rw [bne_iff_ne]
      exact fun e=>this (by exact_mod_cast e)
     generalize p * 128 ^ i % 18446744073709551616 = q at *
     clear hov
     go_wp2_with fail
     go_ret3
     exact ⟨0,none,0,[],false,rfl,by omega,⟨Or.inl ⟨rfl,rfl⟩,none,0,rfl,by simp⟩,by simp,fun k hk=>by simp [Value.ownBlock] at hk,hbel,HN.out⟩
    ·have hq:p * 128 ^ i < 18446744073709551616:=by omega
     have he3:(((p * 128 ^ i % 18446744073709551616:Nat):Int) / 2 ^ (7 * i) != (p:Int)) = false:=by
      rw [shr128]
      have:(p * 128 ^ i % 18446744073709551616) / 128 ^ i = p:=by
       rw [Nat.mod_eq_of_lt hq,Nat.mul_div_cancel _ (pow128_pos i)]
      rw [this];simp
     have he4:=or_add HT.out.1 hq hacc
     rw [Nat.mod_eq_of_lt hq] at he2 he3
     have hsum:=sum_lt (acc:=acc) (p:=p) HT.out.1 hq hi9
     obtain ⟨q,HQ⟩:∃ q,Hid (p * 128 ^ i = q):=⟨_,hid rfl⟩
     rw [HQ.out] at he2 he3 he4 hq hsum
     clear hov
     by_cases hgo:x < 128
     ·have hgoI:(x:Int) < 128:=by omega
      have hxp:x = p:=by rw [← HP.out];omega
      have HN:=hid (HT.out.last hlt (by rw [HX.out];exact hgo) (by rw [HX.out,hxp,HQ.out];exact hq) hi9)
      rw [HX.out,hxp,HQ.out] at HN
      have HPX:=hid hxp
      clear hxp
      have HRd:=hid (Rd.piece HCC.out (i + 1) (L.length - (i + 1)) (c - (i + 1)) (by omega))
      have b1:(0:Int) ≤ (i:Int) + 1:=by omega
      have b2:(i:Int) + 1 ≤ (L.length:Int):=by omega
      have hwrp:IntKind.i64.wrap ((i:Int) + 1) = (i:Int) + 1:=by rw [IntKind.wrap_i64];omega
      by_cases hx0:0 < x
      ·have hx0I:(0:Int) < (x:Int):=by omega
       have hx0D:decide ((0:Int) < (x:Int)) = true:=by simpa using hx0I
       have HF:=hid (show takeV L = some (acc + q,L.drop (i + 1)) by
        rw [HN.out]
        have:(decide (0 < p) || decide (i = 0)) = true:=by rw [← HPX.out];simp [hx0]
        rw [this];rfl)
       by_cases hcc:c = i + 1
       ·have HDR:=hid (show L.drop (i + 1) = [] from List.drop_eq_nil_of_le (by omega))
        have hLL:L.length - (i + 1) = 0:=by omega
        subst hcc
        go_wp2_with fail
        (first | (go_region) | fail)
        all_goals
         go_wp2_with fail
         go_ret3
         exact ⟨acc + q,some ⟨b,o,none⟩,0,[],true,by first | rfl | (rw [hLL];push_cast;rfl) | (push_cast;simp [hLL]),hsum,⟨Or.inr ⟨_,_,rfl,fun j u hu=>by simp at hu⟩,_,_,rfl,by simp⟩,by simp,fun k hk=>hk,hbel.drew,by first | rw [HF.out,HDR.out] | rw [HF.out]⟩
       ·have HDL:=hid (show (L.drop (i + 1)).length = L.length - (i + 1) from List.length_drop)
        go_wp2_with fail
        (first | (go_region) | fail)
        all_goals
         go_wp2_with fail
         go_ret3
         refine ⟨acc + q,some ⟨b,o + (i + 1),none⟩,c - (i + 1),L.drop (i + 1),true,by rw [HDL.out];first | rfl | (push_cast;rfl),hsum,⟨?_,_,_,rfl,by rw [HDL.out];omega⟩,by rw [HDL.out];omega,fun k hk=>hk,hbel.drew,by rw [HF.out]⟩
         have:=HRd.out
         rw [List.take_of_length_le (by rw [HDL.out];exact Nat.le_refl _)] at this
         rw [HDL.out]
         exact this.later (Below.refl _ _).drew
      ·have hx0I:¬ (0:Int) < (x:Int):=by omega
       have hx0D:decide ((0:Int) < (x:Int)) = false:=by simpa using hx0I
       cases hib:((i:Int) == 0) with
       | true =>
        have HF:=hid (show takeV L = some (acc + q,L.drop (i + 1)) by
         rw [HN.out]
         have h1:i = 0:=by simpa using hib
         have:(decide (0 < p) || decide (i = 0)) = true:=by simp [h1]
         rw [this];rfl)
        by_cases hcc:c = i + 1
        ·have HDR:=hid (show L.drop (i + 1) = [] from List.drop_eq_nil_of_le (by omega))
         have hLL:L.length - (i + 1) = 0:=by omega
         subst hcc
         go_wp2_with fail
         (first | (go_region) | fail)
         all_goals
          go_wp2_with fail
          go_ret3
          exact ⟨acc + q,some ⟨b,o,none⟩,0,[],true,by first | rfl | (rw [hLL];push_cast;rfl) | (push_cast;simp [hLL]),hsum,⟨Or.inr ⟨_,_,rfl,fun j u hu=>by simp at hu⟩,_,_,rfl,by simp⟩,by simp,fun k hk=>hk,hbel.drew,by first | rw [HF.out,HDR.out] | rw [HF.out]⟩
        ·have HDL:=hid (show (L.drop (i + 1)).length = L.length - (i + 1) from List.length_drop)
         go_wp2_with fail
         (first | (go_region) | fail)
         all_goals
          go_wp2_with fail
          go_ret3
          refine ⟨acc + q,some ⟨b,o + (i + 1),none⟩,c - (i + 1),L.drop (i + 1),true,by rw [HDL.out];first | rfl | (push_cast;rfl),hsum,⟨?_,_,_,rfl,by rw [HDL.out];omega⟩,by rw [HDL.out];omega,fun k hk=>hk,hbel.drew,by rw [HF.out]⟩
          have:=HRd.out
          rw [List.take_of_length_le (by rw [HDL.out];exact Nat.le_refl _)] at this
          rw [HDL.out]
          exact this.later (Below.refl _ _).drew
       | false =>
        have HF:=hid (show takeV L = none by
         rw [HN.out]
         have h1:¬ i = 0:=by simpa using hib
         have:(decide (0 < p) || decide (i = 0)) = false:=by rw [← HPX.out];simp [hx0,h1]
         rw [this];rfl)
        by_cases hcc:c = i + 1
        ·have HDR:=hid (show L.drop (i + 1) = [] from List.drop_eq_nil_of_le (by omega))
         have hLL:L.length - (i + 1) = 0:=by omega
         subst hcc
         go_wp2_with fail
         (first | (go_region) | fail)
         all_goals
          go_wp2_with fail
          go_ret3
          exact ⟨acc + q,some ⟨b,o,none⟩,0,[],false,by first | rfl | (rw [hLL];push_cast;rfl) | (push_cast;simp [hLL]),hsum,⟨Or.inr ⟨_,_,rfl,fun j u hu=>by simp at hu⟩,_,_,rfl,by simp⟩,by simp,fun k hk=>hk,hbel.drew,by first | rw [HF.out,HDR.out] | rw [HF.out]⟩
        ·have HDL:=hid (show (L.drop (i + 1)).length = L.length - (i + 1) from List.length_drop)
         go_wp2_with fail
         (first | (go_region) | fail)
         all_goals
          go_wp2_with fail
          go_ret3
          refine ⟨acc + q,some ⟨b,o + (i + 1),none⟩,c - (i + 1),L.drop (i + 1),false,by rw [HDL.out];first | rfl | (push_cast;rfl),hsum,⟨?_,_,_,rfl,by rw [HDL.out];omega⟩,by rw [HDL.out];omega,fun k hk=>hk,hbel.drew,by rw [HF.out]⟩
          have:=HRd.out
          rw [List.take_of_length_le (by rw [HDL.out];exact Nat.le_refl _)] at this
          rw [HDL.out]
          exact this.later (Below.refl _ _).drew
     ·have hgoI:¬ (x:Int) < 128:=by omega
      have HN:=hid (show TkAt L (i + 1) (acc + q) by
       have:=HT.out.go hlt (by rw [HX.out];omega) (by rw [HX.out,show x - 128 = p by rw [← HP.out];omega,HQ.out];exact hq)
       rw [HX.out,show x - 128 = p by rw [← HP.out];omega,HQ.out] at this
       exact this)
      obtain ⟨acc',HA⟩:∃ a',Hid (acc + q = a'):=⟨_,hid rfl⟩
      rw [HA.out] at he4 HN hsum
      go_wp2_with fail
      go_roundg (gk - 1)
      case rel=>exact ⟨i + 1,acc',by omega,by go_num,rfl,hsum,HN,hbel⟩
      case measure=>omega
   ·have hbig:(64:Int) ≤ 7 * (i:Int):=by omega
    have hs1:∀ z:Int,Op.shift BinOp.shl IntKind.u64 z IntKind.i64 (7 * (i:Int)) = pure (.int .u64 0):=fun z=>shl_bigP z _ hbig
    have hs2:Op.shift BinOp.shr IntKind.u64 0 IntKind.i64 (7 * (i:Int)) = pure (.int .u64 0):=shr_bigP _ hbig
    clear hbig
    by_cases hp0:p = 0
    ·subst hp0
     have he0:((0:Nat):Int) = 0:=rfl
     rw [he0] at he1
     have he4:bits BinOp.or IntKind.u64 (acc:Int) 0 = (acc:Int):=by
      have:=bits_or_u64_nat acc 0 hacc (by decide)
      simpa using this
     by_cases hgo:x < 128
     ·have hgoI:(x:Int) < 128:=by omega
      have hx00:x = 0:=by have:=HP.out;omega
      have HF:=hid (HT.out.zero hlt (by rw [HX.out];exact hx00) (by omega))
      have HRd:=hid (Rd.piece HCC.out (i + 1) (L.length - (i + 1)) (c - (i + 1)) (by omega))
      have b1:(0:Int) ≤ (i:Int) + 1:=by omega
      have b2:(i:Int) + 1 ≤ (L.length:Int):=by omega
      have hwrp:IntKind.i64.wrap ((i:Int) + 1) = (i:Int) + 1:=by rw [IntKind.wrap_i64];omega
      have hx0I:¬ (0:Int) < (x:Int):=by omega
      have hx0D:decide ((0:Int) < (x:Int)) = false:=by simpa using hx0I
      have hib:((i:Int) == 0) = false:=by simp;omega
      clear he0
      subst hx00
      by_cases hcc:c = i + 1
      ·have hLL:L.length - (i + 1) = 0:=by omega
       subst hcc
       go_wp2_with fail
       (first | (go_region) | fail)
       all_goals
        go_wp2_with fail
        go_ret3
        exact ⟨acc,some ⟨b,o,none⟩,0,[],false,by first | rfl | (rw [hLL];push_cast;rfl) | (push_cast;simp [hLL]),hacc,⟨Or.inr ⟨_,_,rfl,fun j u hu=>by simp at hu⟩,_,_,rfl,by simp⟩,by simp,fun k hk=>hk,hbel.drew,by rw [HF.out]⟩
      ·have HDL:=hid (show (L.drop (i + 1)).length = L.length - (i + 1) from List.length_drop)
       go_wp2_with fail
       (first | (go_region) | fail)
       all_goals
        go_wp2_with fail
        go_ret3
        refine ⟨acc,some ⟨b,o + (i + 1),none⟩,c - (i + 1),L.drop (i + 1),false,by rw [HDL.out];first | rfl | (push_cast;rfl),hacc,⟨?_,_,_,rfl,by rw [HDL.out];omega⟩,by rw [HDL.out];omega,fun k hk=>hk,hbel.drew,by rw [HF.out]⟩
        have:=HRd.out
        rw [List.take_of_length_le (by rw [HDL.out];exact Nat.le_refl _)] at this
        rw [HDL.out]
        exact this.later (Below.refl _ _).drew
     ·have hx128:x = 128:=by have:=HP.out;omega
      have HN:=hid (show TkAt L (i + 1) acc by
       have hz:L[i].toNat - 128 = 0:=by rw [HX.out];have:=HP.out;omega
       have:=HT.out.go hlt (by rw [HX.out];omega) (by rw [hz];omega)
       rw [hz] at this
       simpa using this)
      clear he0
      subst hx128
      go_wp2_with fail
      go_roundg (gk - 1)
      case rel=>exact ⟨i + 1,acc,by omega,by go_num,rfl,hacc,HN,hbel⟩
      case measure=>omega
    ·have HN:=hid (HT.out.over hlt (by rw [HX.out,HP.out];exact big128 hp0 (by omega)))
     have hpB:((0:Int) != (p:Int)) = true:=by simp;omega
     go_wp2_with fail
     go_ret3
     exact ⟨0,none,0,[],false,rfl,by omega,⟨Or.inl ⟨rfl,rfl⟩,none,0,rfl,by simp⟩,by simp,fun k hk=>by simp [Value.ownBlock] at hk,hbel,HN.out⟩
  ·have HN:=hid (HT.out.none (by omega))
   go_wp2_with fail
   go_ret3
   exact ⟨0,none,0,[],false,rfl,by omega,⟨Or.inl ⟨rfl,rfl⟩,none,0,rfl,by simp⟩,by simp,fun k hk=>by simp [Value.ownBlock] at hk,hbel,HN.out⟩
end Go.Proofs.YtdgcamlmjmnpeaaGreatDoor
namespace Go.Proofs.YtdgcamlmjmnpeaaGreatDoor
open Go.RowKit
def CountPost (w:World) (v:Value) (L:List UInt8) (e:Ending) (w':World):Prop:=∃ (a a2:Option Addr) (c c2:Nat) (V R:List UInt8) (ok:Bool),e = .returned (.tuple #[.slice a V.length c,.slice a2 R.length c2,.bool ok]) ∧ RdC w' (.slice a V.length c) V ∧ RdC w' (.slice a2 R.length c2) R ∧ V.length + R.length ≤ L.length ∧ (∀ k,(Value.slice a V.length c).ownBlock = some k → v.ownBlock = some k) ∧ (∀ k,(Value.slice a2 R.length c2).ownBlock = some k → v.ownBlock = some k) ∧ Below w.heap.size w w' ∧ takeC L = (match ok with | true=>some (V,R) | false=>none)
set_option maxRecDepth 100000 in
set_option maxHeartbeats 4000000 in
theorem takeCounted_any (w:World) (v:Value) (L:List UInt8) (h:RdC w v L) (hl:L.length ≤ 1000) :
  Calls Tryz.prog 144 #[v] w (CountPost w v L):=by
 unfold CountPost
 have H:=hid h
 clear h
 obtain ⟨va,vc,hv⟩:∃ a c,v = .slice a L.length c:=H.out.1.slice
 subst hv
 go_enter Tryz.func144,Tryz.ntmps144
 go_wp2_with fail
 refine (numTake_any w _ L H.out hl).mono ?_;rintro e w1 ⟨n,a,c,R,ok,rfl,hn,hR,hRl,hblk,hb1,htk⟩
 have HR:=hid hR
 have HBK:=hid hblk
 have HTK:=hid htk
 clear hR hblk htk
 cases ok with
 | false =>
  have HN:=hid (show takeC L = none by unfold takeC;rw [HTK.out];rfl)
  go_wp2_with fail
  go_ret3
  exact ⟨none,none,0,0,[],[],false,rfl,⟨Or.inl ⟨rfl,rfl⟩,none,0,rfl,by simp⟩,⟨Or.inl ⟨rfl,rfl⟩,none,0,rfl,by simp⟩,by simp,fun k hk=>by simp [Value.ownBlock] at hk,fun k hk=>by simp [Value.ownBlock] at hk,hb1,HN.out⟩
 | true =>
  have hRlen:IntKind.u64.wrap (R.length:Int) = (R.length:Int):=by rw [IntKind.wrap_u64];omega
  by_cases hnl:n ≤ R.length
  ·have hnlI:¬ (R.length:Int) < (n:Int):=by omega
   have hnlD:decide ((R.length:Int) < (n:Int)) = false:=by simpa using hnlI
   have HN:=hid (show takeC L = some (R.take n,R.drop n) by unfold takeC;rw [HTK.out];simp [hnl])
   obtain ⟨hR1,a',c',hac,hRc⟩:=HR.out
   obtain ⟨rfl,rfl⟩:a = a' ∧ c = c':=by simpa using hac
   clear hac
   rcases hR1 with ⟨hnil,hRn⟩ | ⟨ad,c'',hsome,hcells⟩
   ·obtain ⟨rfl,rfl⟩:a = none ∧ c = 0:=by
     subst hRn;simpa using hnil
    subst hRn
    obtain rfl:n = 0:=by simpa using hnl
    go_wp2_with fail
    (first | (go_region) | fail)
    all_goals
     go_wp2_with fail
     go_ret3
     exact ⟨none,none,0,0,[],[],true,rfl,⟨Or.inl ⟨rfl,rfl⟩,none,0,rfl,by simp⟩,⟨Or.inl ⟨rfl,rfl⟩,none,0,rfl,by simp⟩,by simp,fun k hk=>by simp [Value.ownBlock] at hk,fun k hk=>by simp [Value.ownBlock] at hk,hb1.drew,by rw [HN.out];simp⟩
   ·obtain ⟨rfl,rfl⟩:a = some ad ∧ c = c'':=by simpa using hsome
    clear hsome
    have HC:=hid hcells
    clear hcells
    by_cases hR0:R.length = 0
    ·have hRn:R = []:=List.eq_nil_of_length_eq_zero hR0
     subst hRn
     obtain rfl:n = 0:=by simpa using hnl
     by_cases hc0:c = 0
     ·subst hc0
      go_wp2_with fail
      (first | (go_region) | fail)
      all_goals
       go_wp2_with fail
       go_ret3
       exact ⟨some ad,some ad,0,0,[],[],true,rfl,⟨Or.inr ⟨_,_,rfl,fun j u hu=>by simp at hu⟩,_,_,rfl,by simp⟩,⟨Or.inr ⟨_,_,rfl,fun j u hu=>by simp at hu⟩,_,_,rfl,by simp⟩,by simp,HBK.out,HBK.out,hb1.drew,by rw [HN.out];simp⟩
     ·go_wp2_with fail
      (first | (go_region) | fail)
      all_goals
       go_wp2_with fail
       go_ret3
       exact ⟨some ad,_,c,c,[],[],true,rfl,⟨Or.inr ⟨_,_,rfl,fun j u hu=>by simp at hu⟩,_,_,rfl,by simp⟩,⟨Or.inr ⟨_,_,rfl,fun j u hu=>by simp at hu⟩,_,_,rfl,by simp⟩,by simp,HBK.out,fun k hk=>HBK.out k (by simpa [Value.ownBlock] using hk),hb1.drew,by rw [HN.out];simp⟩
    ·obtain ⟨b,o,c3,hv3,hbb,hcell⟩:=(show Rd w1 (.slice (some ad) R.length c) R from Or.inr ⟨ad,c,rfl,HC.out⟩).at (by omega)
     obtain ⟨rfl,rfl⟩:ad = ⟨b,o,none⟩ ∧ c = c3:=by simpa using hv3
     have HP1:=hid (Rd.piece hcell 0 n c (by omega))
     have HP2:=hid (Rd.piece hcell n (R.length - n) (c - n) (by omega))
     have HL1:=hid (show (R.take n).length = n by rw [List.length_take];omega)
     have HL2:=hid (show (R.drop n).length = R.length - n from List.length_drop)
     clear hv3 hcell
     by_cases hcc:c = n
     ·have HRn:=hid (show R.drop n = [] from List.drop_eq_nil_of_le (by omega))
      have hz:R.length - n = 0:=by omega
      subst hcc
      go_wp2_with fail
      (first | (go_region) | fail)
      all_goals
       go_wp2_with fail
       go_ret3
       refine ⟨some ⟨b,o,none⟩,some ⟨b,o,none⟩,c,0,R.take c,[],true,by rw [HL1.out];rfl,⟨?_,_,_,rfl,by rw [HL1.out];omega⟩,⟨Or.inr ⟨_,_,rfl,fun j u hu=>by simp at hu⟩,_,_,rfl,by simp⟩,by rw [HL1.out];simp;omega,fun k hk=>HBK.out k hk,fun k hk=>HBK.out k hk,hb1.drew,by rw [HN.out,HRn.out]⟩
       rw [HL1.out]
       exact HP1.out.later (Below.refl _ _).drew
     ·go_wp2_with fail
      (first | (go_region) | fail)
      all_goals
       go_wp2_with fail
       go_ret3
       refine ⟨some ⟨b,o,none⟩,some ⟨b,o + n,none⟩,c,c - n,R.take n,R.drop n,true,by rw [HL1.out,HL2.out];rfl,⟨?_,_,_,rfl,by rw [HL1.out];omega⟩,⟨?_,_,_,rfl,by rw [HL2.out];omega⟩,by rw [HL1.out,HL2.out];omega,fun k hk=>HBK.out k hk,fun k hk=>HBK.out k hk,hb1.drew,by rw [HN.out]⟩
       ·rw [HL1.out]
        exact HP1.out.later (Below.refl _ _).drew
       ·rw [HL2.out]
        have:=HP2.out
        rw [List.take_of_length_le (by rw [HL2.out];exact Nat.le_refl _)] at this
        exact this.later (Below.refl _ _).drew
  ·have hnlI:(R.length:Int) < (n:Int):=by omega
   have HN:=hid (show takeC L = none by unfold takeC;rw [HTK.out];simp [hnl])
   go_wp2_with fail
   go_ret3
   exact ⟨none,none,0,0,[],[],false,rfl,⟨Or.inl ⟨rfl,rfl⟩,none,0,rfl,by simp⟩,⟨Or.inl ⟨rfl,rfl⟩,none,0,rfl,by simp⟩,by simp,fun k hk=>by simp [Value.ownBlock] at hk,fun k hk=>by simp [Value.ownBlock] at hk,hb1,HN.out⟩
def WholeNPost (w:World) (L:List UInt8) (e:Ending) (w':World):Prop:=∃ (n:Nat) (ok:Bool),e = .returned (.tuple #[.int .u64 n,.bool ok]) ∧ n < 18446744073709551616 ∧ Below w.heap.size w w' ∧ wholeV L = (match ok with | true=>some n | false=>none)
set_option maxRecDepth 100000 in
set_option maxHeartbeats 4000000 in
theorem wholeNumber_any (w:World) (v:Value) (L:List UInt8) (h:RdC w v L) (hl:L.length ≤ 1000) :
  Calls Tryz.prog 93 #[v] w (WholeNPost w L):=by
 unfold WholeNPost
 have H:=hid h
 clear h
 obtain ⟨va,vc,hv⟩:∃ a c,v = .slice a L.length c:=H.out.1.slice
 subst hv
 go_enter Tryz.func93,Tryz.ntmps93
 go_wp2_with fail
 refine (numTake_any w _ L H.out hl).mono ?_;rintro e w1 ⟨n,a,c,R,ok,rfl,hn,hR,hRl,hblk,hb1,htk⟩
 have HTK:=hid htk
 clear hR hblk htk
 cases ok with
 | false =>
  have HN:=hid (show wholeV L = none by unfold wholeV;rw [HTK.out];rfl)
  go_wp2_with fail
  go_ret2
  exact ⟨n,false,rfl,hn,hb1,HN.out⟩
 | true =>
  cases hz:((R.length:Int) == 0) with
  | true =>
   have HN:=hid (show wholeV L = some n by
    unfold wholeV;rw [HTK.out]
    have:R = []:=List.eq_nil_of_length_eq_zero (by simpa using hz)
    simp [this])
   go_wp2_with fail
   go_ret2
   exact ⟨n,true,rfl,hn,hb1,HN.out⟩
  | false =>
   have HN:=hid (show wholeV L = none by
    unfold wholeV;rw [HTK.out]
    have:¬ R = []:=fun e=>by rw [e] at hz;simp at hz
    simp [this])
   go_wp2_with fail
   go_ret2
   exact ⟨n,false,rfl,hn,hb1,HN.out⟩
end Go.Proofs.YtdgcamlmjmnpeaaGreatDoor
