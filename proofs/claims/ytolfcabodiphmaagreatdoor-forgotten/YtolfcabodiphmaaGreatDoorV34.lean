/- pick of package courierkeep. -/
import Derived.Test.YtolfcabodiphmaaGreatDoorV09
import Derived.Test.YtolfcabodiphmaaGreatDoorV00
import Derived.Test.YtolfcabodiphmaaGreatDoorShelf4
import Derived.Test.YtolfcabodiphmaaGreatDoorV33
set_option linter.unusedSimpArgs false
set_option linter.unusedVariables false
set_option maxHeartbeats 4000000
set_option maxRecDepth 100000
namespace Go.Proofs.YtolfcabodiphmaaGreatDoor
open Go.Proofs.Tryz
open Go.RowKit
theorem pick_any(c:Int)(n:Nat)(w:World)(h0:0<n)(h1:n≤maxLen)(hc:-9223372036854775808≤c∧c≤9223372036854775807):
  Calls Tryz.prog 6 #[.int .i64 c,.int .i64 n] w fun e w'=>e=.returned (.int .i64 (jK c n))∧w'=w:=by
 unfold maxLen at h1
 by_cases hneg:c<0
 ·have HP:=hid (QK (n:=n) h0 hneg)
  go_enter func6,ntmps6
  go_wp2_with fail
  go_ret
  refine⟨nK ?_,rfl⟩
  rw[HP.out]
 ·have HP:=hid (QL (n:=n) h0 hneg)
  go_enter func6,ntmps6
  go_wp2_with fail
  go_ret
  refine⟨nK ?_,rfl⟩
  rw[HP.out]
theorem afW:Tryz.prog.globalNamed "internal/strconv.uint64pow10" = some 0:=by kernel_rfl
structure Tab(w:World):Prop where
 t:Lib.TabIs Tryz.prog w "internal/strconv.uint64pow10" .u64 Lib.pow10Tab
 lt:0 < w.heap.size
theorem Tab.below{w w':World}(h:Tab w)(hb:Below w.heap.size w w'):Tab w':=by
 refine⟨?_,Nat.lt_of_lt_of_le h.lt hb.size⟩
 have:=h.t
 unfold Lib.TabIs World.var? at this ⊢
 rw[afW] at this ⊢
 simp only[Option.bind_some] at this ⊢
 rw[hb.block _ h.lt]
 exact this
theorem KL(w:World)(n:Nat)(os:Array Obj):Below w.heap.size w (Sort.grow (w.drewN n) os) :=
 ⟨rfl,rfl,rfl,by simp[Sort.grow],fun k hk=>by
  have h1:=(below_drewN (Below.refl w.heap.size w) n).block k hk
  have h2:(w.drewN n).heap=w.heap:=rfl
  simp only[Sort.grow,h2]
  rw[Array.getElem?_append_left hk]⟩
theorem Dw:∀ (k u:Nat),u<10 ^ (k+1)→(Lib.decDigits u).length≤k+1
 | 0,u,h=>by rw[Lib.decDigits,dif_pos (by omega)];simp
 | k+1,u,h=>by
  rw[Lib.decDigits]
  by_cases h1:u<10
  ·rw[dif_pos h1];simp
  ·rw[dif_neg h1,List.length_append]
   have:=Dw k (u / 10) (by rw[Nat.pow_succ] at h;omega)
   simp;omega
def FQ(n:Nat):List UInt8:=Lib.itoa (n:Int)
theorem Zp(n:Nat)(h:n≤100000):(FQ n).length≤6:=by
 unfold FQ Lib.itoa
 rw[if_neg (by omega)]
 exact Dw 5 _ (by show _<10 ^ 6;have:(10:Nat) ^ 6=1000000:=(by decide);omega)
theorem NG(t:ByteArray):t.toList.length=t.size:=by rw[ByteArray.toList_eq];rfl
theorem mG(a b:ByteArray):(a++b).toList=a.toList++b.toList:=by rw[ByteArray.toList_eq,ByteArray.toList_eq,ByteArray.toList_eq];simp
theorem Zq(l:Array UInt8):(ByteArray.mk l).toList=l.toList:=by rw[ByteArray.toList_eq]
def WM(n:Nat)(w:World)(e:Ending)(w':World):Prop:=∃ t:ByteArray,e=.returned (.string t)∧Below w.heap.size w w'∧t.toList=FQ n∧t.size≤6
theorem sN(n:Nat)(hn:n≤100000)(w:World)(hE:Tab w):Calls Tryz.prog 35 #[.int .i64 n] w (WM n w):=by
 have HE:=hid hE
 clear hE
 have QF:=hid (show (ByteArray.mk (Lib.itoa (n:Int)).toArray).toList=FQ n by rw[ByteArray.toList_eq];rfl)
 have Yc:=hid (Zp n hn)
 obtain⟨fb,HFB⟩:∃ fb,Hid (ByteArray.mk (Lib.itoa (n:Int)).toArray=fb):=⟨_,hid rfl⟩
 rw[HFB.out] at QF
 have hfs:fb.size≤6:=by rw[← NG,QF.out];exact Yc.out
 go_enter func35,ntmps35
 go_wp2_with fail
 refine(Tryz.x_strconv_Itoa (n:Int) (by omega) (by omega) _ HE.out.t).mono ?_;rintro e w1 ⟨rfl,kk,os,hw1⟩
 rw[HFB.out]
 have hb1:Below w.heap.size w w1:=by rw[hw1];exact KL _ _ _
 clear hw1
 go_wp2_with fail
 go_ret
 exact⟨fb,rfl,hb1,QF.out,hfs⟩
def xU(V:List UInt8)(w:World)(e:Ending)(w':World):Prop:=∃ t:ByteArray,e=.returned (.string t)∧Below w.heap.size w w'∧t.toList=V∧t.size≤200
def nG(b:Nat)(n:Nat):List UInt8:=match b with
 | 0=>FQ n
 | 1=>[123,120,58]++FQ n++[44,121,58,45,49]++(if n % 2=0 then [44,116,97,103,58,34,92,48,97]++FQ (n % 7)++[34] else [])++(if n % 3=0 then [44,109,111,114,101,58,91,123,120,58,48,44,121,58]++FQ (n % 5)++[44,109,111,114,101,58,91,93,125,93,125] else [44,109,111,114,101,58,91,93,125])
 | 2=>if n % 2=0 then [114,101,100] else [103,114,101,101,110]
 | _=>[34,116]++FQ n++[92,48,48,34]
theorem yY(n:Nat)(hn:n≤2000)(w:World)(hE:Tab w):Calls Tryz.prog 17 #[.string (ByteArray.mk #[105,110,116]),.int .i64 n] w (xU (nG 0 n) w):=by
 have HE:=hid hE
 clear hE
 have HN:=hid (show ∀ w',Below w.heap.size w w'→∀ m:Nat,m≤100000→Calls Tryz.prog 35 #[.int .i64 m] w' (fun e w''=>∃ t:ByteArray,e=.returned (.string t)∧Below w.heap.size w w''∧t.toList=FQ m∧t.size≤6) from fun w' hw' m hm=>(sN m hm w' (HE.out.below hw')).mono (fun e w'' h=>by obtain⟨t,h1,h2,h3,h4⟩:=h;exact⟨t,h1,hw'.trans (h2.mono hw'.size),h3,h4⟩))
 go_enter func17,ntmps17
 go_wp2_with fail
 (first | (refine(HN.out _ (by repeat (first | with_reducible assumption | with_reducible exact Below.refl _ _ | with_reducible apply Below.drew)) n (by omega)).mono ?_;rintro e w1 ⟨t1,rfl,hb1,ht1,hs1⟩;have HT1:=hid ht1;clear ht1) | (first | (go_region_with (first | (go_at_call 35;refine(HN.out _ (by repeat (first | with_reducible assumption | with_reducible exact Below.refl _ _ | with_reducible apply Below.drew)) n (by omega)).mono ?_;rintro e w1 ⟨t1,rfl,hb1,ht1,hs1⟩;have HT1:=hid ht1;clear ht1))) | fail))
 go_wp2_with fail
 go_ret
 exact⟨t1,rfl,hb1,HT1.out,by omega⟩
theorem NH(n:Nat)(hn:n≤2000)(w:World)(hE:Tab w):Calls Tryz.prog 17 #[.string (ByteArray.mk #[116,101,120,116]),.int .i64 n] w (xU (nG 3 n) w):=by
 have HE:=hid hE
 clear hE
 have HN:=hid (show ∀ w',Below w.heap.size w w'→∀ m:Nat,m≤100000→Calls Tryz.prog 35 #[.int .i64 m] w' (fun e w''=>∃ t:ByteArray,e=.returned (.string t)∧Below w.heap.size w w''∧t.toList=FQ m∧t.size≤6) from fun w' hw' m hm=>(sN m hm w' (HE.out.below hw')).mono (fun e w'' h=>by obtain⟨t,h1,h2,h3,h4⟩:=h;exact⟨t,h1,hw'.trans (h2.mono hw'.size),h3,h4⟩))
 have hz1:(ByteArray.mk #[34,116]).size=2:=rfl
 have hz2:(ByteArray.mk #[92,48,48,34]).size=4:=rfl
 go_enter func17,ntmps17
 go_wp2_with fail
 (first | (refine(HN.out _ (by repeat (first | with_reducible assumption | with_reducible exact Below.refl _ _ | with_reducible apply Below.drew)) n (by omega)).mono ?_;rintro e w1 ⟨t1,rfl,hb1,ht1,hs1⟩;have HT1:=hid ht1;clear ht1) | (first | (go_region_with (first | (go_at_call 35;refine(HN.out _ (by repeat (first | with_reducible assumption | with_reducible exact Below.refl _ _ | with_reducible apply Below.drew)) n (by omega)).mono ?_;rintro e w1 ⟨t1,rfl,hb1,ht1,hs1⟩;have HT1:=hid ht1;clear ht1))) | fail))
 have aoN:¬ 9223372036854775807<2+t1.size:=by omega
 have aoO:¬ 9223372036854775807<2+t1.size+4:=by omega
 go_wp2_with fail
 go_ret
 exact⟨ByteArray.mk #[34,116]++t1++ByteArray.mk #[92,48,48,34],rfl,hb1,by rw[mG,mG,HT1.out,ByteArray.toList_eq,ByteArray.toList_eq];rfl,by rw[ByteArray.size_append,ByteArray.size_append,hz1,hz2];omega⟩
theorem KN(n:Nat)(hn:n≤2000)(w:World)(hE:Tab w):Calls Tryz.prog 17 #[.string (ByteArray.mk #[112,111,105,110,116]),.int .i64 n] w (xU (nG 1 n) w):=by
 have HE:=hid hE
 clear hE
 have HN:=hid (show ∀ w',Below w.heap.size w w'→∀ m:Nat,m≤100000→Calls Tryz.prog 35 #[.int .i64 m] w' (fun e w''=>∃ t:ByteArray,e=.returned (.string t)∧Below w.heap.size w w''∧t.toList=FQ m∧t.size≤6) from fun w' hw' m hm=>(sN m hm w' (HE.out.below hw')).mono (fun e w'' h=>by obtain⟨t,h1,h2,h3,h4⟩:=h;exact⟨t,h1,hw'.trans (h2.mono hw'.size),h3,h4⟩))
 by_cases h2:n % 2=0
 ·by_cases h3:n % 3=0
  ·have h2I:((n:Int) % 2==0)=true:=by simp;omega
   have h3I:((n:Int) % 3==0)=true:=by simp;omega
   have h7:(n:Int) % 7=((n % 7:Nat):Int):=by omega
   have h5:(n:Int) % 5=((n % 5:Nat):Int):=by omega
   have h7b:n % 7≤100000:=by omega
   have h5b:n % 5≤100000:=by omega
   have HV:=hid (show nG 1 n=[123,120,58]++FQ n++[44,121,58,45,49]++([44,116,97,103,58,34,92,48,97]++FQ (n % 7)++[34])++([44,109,111,114,101,58,91,123,120,58,48,44,121,58]++FQ (n % 5)++[44,109,111,114,101,58,91,93,125,93,125]) from by unfold nG;rw[if_pos h2,if_pos h3];rfl)
   generalize n % 7=n7 at *
   generalize n % 5=n5 at *
   clear h2 h3
   go_enter func17,ntmps17
   go_wp2_with fail
   (first | (refine(HN.out _ (by repeat (first | with_reducible assumption | with_reducible exact Below.refl _ _ | with_reducible apply Below.drew)) n (by omega)).mono ?_;rintro e w1 ⟨t1,rfl,hb1,ht1,hs1⟩;have HT1:=hid ht1;clear ht1) | (first | (go_region_with (first | (go_at_call 35;refine(HN.out _ (by repeat (first | with_reducible assumption | with_reducible exact Below.refl _ _ | with_reducible apply Below.drew)) n (by omega)).mono ?_;rintro e w1 ⟨t1,rfl,hb1,ht1,hs1⟩;have HT1:=hid ht1;clear ht1))) | fail))
   all_goals
    have hz1:(ByteArray.mk #[123,120,58]).size=3:=rfl
    have hz2:(ByteArray.mk #[44,121,58,45,49]).size=5:=rfl
    go_wp2_with fail
    (first | (refine(HN.out _ (by repeat (first | with_reducible assumption | with_reducible exact Below.refl _ _ | with_reducible apply Below.drew)) n7 (by omega)).mono ?_;rintro e w2 ⟨t2,rfl,hb2,ht2,hs2⟩;have HT2:=hid ht2;clear ht2) | (first | (go_region_with (first | (go_at_call 35;refine(HN.out _ (by repeat (first | with_reducible assumption | with_reducible exact Below.refl _ _ | with_reducible apply Below.drew)) n7 (by omega)).mono ?_;rintro e w2 ⟨t2,rfl,hb2,ht2,hs2⟩;have HT2:=hid ht2;clear ht2))) | fail))
    all_goals
     have hz3:(ByteArray.mk #[44,116,97,103,58,34,92,48,97]).size=9:=rfl
     have hz4:(ByteArray.mk #[34]).size=1:=rfl
     go_wp2_with fail
     (first | (refine(HN.out _ (by repeat (first | with_reducible assumption | with_reducible exact Below.refl _ _ | with_reducible apply Below.drew)) n5 (by omega)).mono ?_;rintro e w3 ⟨t3,rfl,hb3,ht3,hs3⟩;have HT3:=hid ht3;clear ht3) | (first | (go_region_with (first | (go_at_call 35;refine(HN.out _ (by repeat (first | with_reducible assumption | with_reducible exact Below.refl _ _ | with_reducible apply Below.drew)) n5 (by omega)).mono ?_;rintro e w3 ⟨t3,rfl,hb3,ht3,hs3⟩;have HT3:=hid ht3;clear ht3))) | fail))
     all_goals
      go_wp2_with fail
      go_ret
      exact⟨ByteArray.mk #[123,120,58]++t1++ByteArray.mk #[44,121,58,45,49]++ByteArray.mk #[44,116,97,103,58,34,92,48,97]++t2++ByteArray.mk #[34]++ByteArray.mk #[44,109,111,114,101,58,91,123,120,58,48,44,121,58]++t3++ByteArray.mk #[44,109,111,114,101,58,91,93,125,93,125],rfl,hb3,by simp only[mG,HT1.out,HT2.out,HT3.out,Zq,HV.out];simp,by simp only[ByteArray.size_append];have e:∀ l:Array UInt8,(ByteArray.mk l).size=l.size:=fun _=>rfl;simp only[e];simp;omega⟩
  ·have h2I:((n:Int) % 2==0)=true:=by simp;omega
   have h3I:((n:Int) % 3==0)=false:=by simp;omega
   have h7:(n:Int) % 7=((n % 7:Nat):Int):=by omega
   have h5:(n:Int) % 5=((n % 5:Nat):Int):=by omega
   have h7b:n % 7≤100000:=by omega
   have h5b:n % 5≤100000:=by omega
   have HV:=hid (show nG 1 n=[123,120,58]++FQ n++[44,121,58,45,49]++([44,116,97,103,58,34,92,48,97]++FQ (n % 7)++[34])++[44,109,111,114,101,58,91,93,125] from by unfold nG;rw[if_pos h2,if_neg h3];rfl)
   generalize n % 7=n7 at *
   generalize n % 5=n5 at *
   clear h2 h3
   go_enter func17,ntmps17
   go_wp2_with fail
   (first | (refine(HN.out _ (by repeat (first | with_reducible assumption | with_reducible exact Below.refl _ _ | with_reducible apply Below.drew)) n (by omega)).mono ?_;rintro e w1 ⟨t1,rfl,hb1,ht1,hs1⟩;have HT1:=hid ht1;clear ht1) | (first | (go_region_with (first | (go_at_call 35;refine(HN.out _ (by repeat (first | with_reducible assumption | with_reducible exact Below.refl _ _ | with_reducible apply Below.drew)) n (by omega)).mono ?_;rintro e w1 ⟨t1,rfl,hb1,ht1,hs1⟩;have HT1:=hid ht1;clear ht1))) | fail))
   all_goals
    have hz1:(ByteArray.mk #[123,120,58]).size=3:=rfl
    have hz2:(ByteArray.mk #[44,121,58,45,49]).size=5:=rfl
    go_wp2_with fail
    (first | (refine(HN.out _ (by repeat (first | with_reducible assumption | with_reducible exact Below.refl _ _ | with_reducible apply Below.drew)) n7 (by omega)).mono ?_;rintro e w2 ⟨t2,rfl,hb2,ht2,hs2⟩;have HT2:=hid ht2;clear ht2) | (first | (go_region_with (first | (go_at_call 35;refine(HN.out _ (by repeat (first | with_reducible assumption | with_reducible exact Below.refl _ _ | with_reducible apply Below.drew)) n7 (by omega)).mono ?_;rintro e w2 ⟨t2,rfl,hb2,ht2,hs2⟩;have HT2:=hid ht2;clear ht2))) | fail))
    all_goals
     have hz3:(ByteArray.mk #[44,116,97,103,58,34,92,48,97]).size=9:=rfl
     have hz4:(ByteArray.mk #[34]).size=1:=rfl
     go_wp2_with fail
     go_ret
     exact⟨ByteArray.mk #[123,120,58]++t1++ByteArray.mk #[44,121,58,45,49]++ByteArray.mk #[44,116,97,103,58,34,92,48,97]++t2++ByteArray.mk #[34]++ByteArray.mk #[44,109,111,114,101,58,91,93,125],rfl,hb2,by simp only[mG,HT1.out,HT2.out,Zq,HV.out];simp,by simp only[ByteArray.size_append];have e:∀ l:Array UInt8,(ByteArray.mk l).size=l.size:=fun _=>rfl;simp only[e];simp;omega⟩
 ·by_cases h3:n % 3=0
  ·have h2I:((n:Int) % 2==0)=false:=by simp;omega
   have h3I:((n:Int) % 3==0)=true:=by simp;omega
   have h7:(n:Int) % 7=((n % 7:Nat):Int):=by omega
   have h5:(n:Int) % 5=((n % 5:Nat):Int):=by omega
   have h7b:n % 7≤100000:=by omega
   have h5b:n % 5≤100000:=by omega
   have HV:=hid (show nG 1 n=[123,120,58]++FQ n++[44,121,58,45,49]++[]++([44,109,111,114,101,58,91,123,120,58,48,44,121,58]++FQ (n % 5)++[44,109,111,114,101,58,91,93,125,93,125]) from by unfold nG;rw[if_neg h2,if_pos h3];rfl)
   generalize n % 7=n7 at *
   generalize n % 5=n5 at *
   clear h2 h3
   go_enter func17,ntmps17
   go_wp2_with fail
   (first | (refine(HN.out _ (by repeat (first | with_reducible assumption | with_reducible exact Below.refl _ _ | with_reducible apply Below.drew)) n (by omega)).mono ?_;rintro e w1 ⟨t1,rfl,hb1,ht1,hs1⟩;have HT1:=hid ht1;clear ht1) | (first | (go_region_with (first | (go_at_call 35;refine(HN.out _ (by repeat (first | with_reducible assumption | with_reducible exact Below.refl _ _ | with_reducible apply Below.drew)) n (by omega)).mono ?_;rintro e w1 ⟨t1,rfl,hb1,ht1,hs1⟩;have HT1:=hid ht1;clear ht1))) | fail))
   all_goals
    have hz1:(ByteArray.mk #[123,120,58]).size=3:=rfl
    have hz2:(ByteArray.mk #[44,121,58,45,49]).size=5:=rfl
    go_wp2_with fail
    (first | (refine(HN.out _ (by repeat (first | with_reducible assumption | with_reducible exact Below.refl _ _ | with_reducible apply Below.drew)) n5 (by omega)).mono ?_;rintro e w3 ⟨t3,rfl,hb3,ht3,hs3⟩;have HT3:=hid ht3;clear ht3) | (first | (go_region_with (first | (go_at_call 35;refine(HN.out _ (by repeat (first | with_reducible assumption | with_reducible exact Below.refl _ _ | with_reducible apply Below.drew)) n5 (by omega)).mono ?_;rintro e w3 ⟨t3,rfl,hb3,ht3,hs3⟩;have HT3:=hid ht3;clear ht3))) | fail))
    all_goals
     go_wp2_with fail
     go_ret
     exact⟨ByteArray.mk #[123,120,58]++t1++ByteArray.mk #[44,121,58,45,49]++ByteArray.mk #[44,109,111,114,101,58,91,123,120,58,48,44,121,58]++t3++ByteArray.mk #[44,109,111,114,101,58,91,93,125,93,125],rfl,hb3,by simp only[mG,HT1.out,HT3.out,Zq,HV.out];simp,by simp only[ByteArray.size_append];have e:∀ l:Array UInt8,(ByteArray.mk l).size=l.size:=fun _=>rfl;simp only[e];simp;omega⟩
  ·have h2I:((n:Int) % 2==0)=false:=by simp;omega
   have h3I:((n:Int) % 3==0)=false:=by simp;omega
   have h7:(n:Int) % 7=((n % 7:Nat):Int):=by omega
   have h5:(n:Int) % 5=((n % 5:Nat):Int):=by omega
   have h7b:n % 7≤100000:=by omega
   have h5b:n % 5≤100000:=by omega
   have HV:=hid (show nG 1 n=[123,120,58]++FQ n++[44,121,58,45,49]++[]++[44,109,111,114,101,58,91,93,125] from by unfold nG;rw[if_neg h2,if_neg h3];rfl)
   generalize n % 7=n7 at *
   generalize n % 5=n5 at *
   clear h2 h3
   go_enter func17,ntmps17
   go_wp2_with fail
   (first | (refine(HN.out _ (by repeat (first | with_reducible assumption | with_reducible exact Below.refl _ _ | with_reducible apply Below.drew)) n (by omega)).mono ?_;rintro e w1 ⟨t1,rfl,hb1,ht1,hs1⟩;have HT1:=hid ht1;clear ht1) | (first | (go_region_with (first | (go_at_call 35;refine(HN.out _ (by repeat (first | with_reducible assumption | with_reducible exact Below.refl _ _ | with_reducible apply Below.drew)) n (by omega)).mono ?_;rintro e w1 ⟨t1,rfl,hb1,ht1,hs1⟩;have HT1:=hid ht1;clear ht1))) | fail))
   all_goals
    have hz1:(ByteArray.mk #[123,120,58]).size=3:=rfl
    have hz2:(ByteArray.mk #[44,121,58,45,49]).size=5:=rfl
    go_wp2_with fail
    go_ret
    exact⟨ByteArray.mk #[123,120,58]++t1++ByteArray.mk #[44,121,58,45,49]++ByteArray.mk #[44,109,111,114,101,58,91,93,125],rfl,hb1,by simp only[mG,HT1.out,Zq,HV.out];simp,by simp only[ByteArray.size_append];have e:∀ l:Array UInt8,(ByteArray.mk l).size=l.size:=fun _=>rfl;simp only[e];simp;omega⟩
open Go.Conc
theorem ug{a b:ByteArray}(h:a.toList=b.toList):a=b:=by
 rw[ByteArray.toList_eq,ByteArray.toList_eq] at h
 exact ByteArray.ext (Array.toList_inj.1 h)
theorem Zr{lo:Nat}{w:World}{g:WG}(h:lI lo w g)(SC:Tab w){k:Nat}{x:uq}(hx:g.calls[k]? = some x)(hk2:k≤200)(hnm:x.name=⟨#[97,100,100]⟩)(han:x.answer=⟨#[]⟩)(id:Nat)(hxi:x.id=(id:Int))(v:ByteArray)(hv:v.toList=nG 0 (7*k))(q:SP)
  (hR1:∀ w1,Below w.heap.size w w1→Calls Tryz.prog 65 #[.pointer (some ⟨g.sg.b,0,none⟩),.int .i64 id,.string v] w1 (fun e w'=>e=.returned (.int .i64 0)∧∃ g',dV lo w1 g.sg q w' g'))
  (hR2:∀ w2 DU,Srv lo w2 DU→DU.st=q→Calls Tryz.prog 65 #[.pointer (some ⟨DU.b,0,none⟩),.int .i64 id,.string v] w2 (fun e w'=>e=.returned (.int .i64 16)∧Below w2.heap.size w2 w')) :
  Calls Tryz.prog 28 #[.pointer (some ⟨g.b,0,none⟩),.int .i64 k] w (fun e w'=>e=.returned (.bool true)∧∃ g',mF lo w g { g.st with s:=q,calls:=g.calls.set k { x with answer:=v } } w' g'):=by
 obtain⟨ga,c,hcv,hcell⟩:=h.eY hx
 have hkl:k<g.calls.length:=(List.getElem?_eq_some_iff.1 hx).1
 have Jc:w.cell? ⟨g.b,17,none⟩=some (.slice (some ⟨ga,0,none⟩) g.calls.length c):=(show w.cell? ⟨g.b,17,none⟩=some g.kX from h.blk.cell 17).trans (by rw[hcv])
 have fO:(k:Int)<(g.calls.length:Int):=by omega
 have HV:=hid (show Calls Tryz.prog 17 #[.string (ByteArray.mk #[105,110,116]),.int .i64 (7*(k:Int))] w (xU (nG 0 (7*k)) w) by
  have:=yY (7*k) (by omega) w SC
  rw[show ((7*k:Nat):Int)=7*(k:Int) by omega] at this
  exact this)
 have HVV:=hid hv
 have HR1:=hid hR1
 have HR2:=hid hR2
 have HX:=hid hx
 have uI:=hid hcv
 have HA:=hid han
 have WO:=hid hnm
 have YO:=hid hxi
 have H:=hid h
 clear h SC hx hnm han hxi hv hR1 hR2 hcv hcell
 go_enter func28,ntmps28
 go_wp2_with fail
 refine HV.out.mono ?_;rintro e w1 ⟨t,rfl,hb1,ht,_⟩
 obtain rfl:t=v:=ug (ht.trans HVV.out.symm)
 have H1:=hid (H.out.below hb1)
 obtain⟨ga',c',hcv',hcell1⟩:=H1.out.eY HX.out
 obtain⟨rfl,rfl⟩:ga=ga'∧c=c':=by simpa using uI.out.symm.trans hcv'
 have n0:w1.cell? ⟨ga,k*5,none⟩=some (.string ⟨#[97,100,100]⟩):=(hcell1 0 _ rfl).trans (by rw[WO.out])
 have n3:w1.cell? ⟨ga,k*5+3,none⟩=some (.int .i64 id):=(hcell1 3 _ rfl).trans (by rw[YO.out])
 have k0:w1.cell? ⟨g.b,0,none⟩=some (.pointer (some ⟨g.sb,0,none⟩)):=H1.out.blk.cell 0
 have jJ:=hid (show w1.drew.cell? ⟨g.sb,0,none⟩=some (.pointer (some ⟨g.sg.b,0,none⟩)) from H1.out.dX.cell 0)
 have wO:=hid (show Calls Tryz.prog 65 #[.pointer (some ⟨g.sg.b,0,none⟩),.int .i64 id,.string t] w1.drew (fun e w'=>∃ z:Int,e=.returned (.int .i64 z)∧(z=0∧∃ g',dV lo w1.drew g.sg q w' g')) by
  refine(HR1.out w1.drew hb1.drew).mono ?_
  rintro e w' ⟨rfl,hh⟩
  exact⟨0,rfl,rfl,hh⟩)
 have Hb1:=hid hb1
 clear hb1 ht hcv' hcell1
 go_wp2_with fail
 go_region_with (go_at_call 45;refine(Aq w1.drew g.sb g.sg.b jJ.out id t _ wO.out).mono ?_;rintro e w2 ⟨z,rfl,rfl,sg2,h2⟩)
 all_goals
  have hT2:=(mF.refl H.out Hb1.out.drew).trans (H1.out.drew.lK h2)
  obtain⟨ga2,c2,hcv2,hcell2⟩:=hT2.wld.eY HX.out
  obtain⟨rfl,rfl⟩:ga=ga2∧c=c2:=by simpa using uI.out.symm.trans hcv2
  have m2:w2.cell? ⟨ga,k*5+2,none⟩=some (.string ⟨#[]⟩):=(hcell2 2 _ rfl).trans (by rw[HA.out])
  have f2:w2.frozen? ⟨ga,k*5+2,none⟩=false:=by
   have:=hT2.wld.iY
   rw[hcv2] at this
   exact iD this _
  have kF:=hT2.trans (hT2.wld.WJ (k:=k) (j:=2) (x:=x) (x':={ x with answer:=t }) (v:=.string t) HX.out (by decide) rfl hcv2)
  obtain⟨w3,hw3⟩:∃ w3,w2.setCell ⟨ga,k*5+2,none⟩ (.string t)=w3:=⟨_,rfl⟩
  rw[hw3] at kF
  have hlk:k<g.calls.length:=hkl
  obtain⟨ga3,c3,WQ,oJ⟩:=kF.wld.eY (k:=k) (x:={ x with answer:=t }) (by show (g.calls.set k _)[k]? = _;simp[hlk])
  obtain⟨rfl,rfl⟩:ga=ga3∧c=c3:=by
   have:=uI.out.symm.trans WQ
   simp at this
   exact⟨this.1,this.2⟩
  have r3:w3.cell? ⟨ga,k*5+3,none⟩=some (.int .i64 id):=(oJ 3 _ rfl).trans (by show some (Value.int .i64 x.id)=_;rw[YO.out])
  have r0:w3.cell? ⟨g.b,0,none⟩=some (.pointer (some ⟨g.sb,0,none⟩)):=kF.wld.blk.cell 0
  have HW3:=hid kF.wld
  have HT3:=hid kF
  have Jw:=hid h2.st
  have iR:=hid (show w3.drew.cell? ⟨g.sb,0,none⟩=some (.pointer (some ⟨sg2.b,0,none⟩)) from HW3.out.dX.cell 0)
  have Ja:=hid (show Calls Tryz.prog 65 #[.pointer (some ⟨sg2.b,0,none⟩),.int .i64 id,.string t] w3.drew (fun e w'=>∃ z:Int,e=.returned (.int .i64 z)∧(z=16∧Below w3.drew.heap.size w3.drew w')) by
   refine(HR2.out w3.drew sg2 HW3.out.drew.srv Jw.out).mono ?_
   rintro e w' ⟨rfl,hh⟩
   exact⟨16,rfl,rfl,hh⟩)
  clear hT2 hcv2 hcell2 kF WQ oJ h2
  go_wp2_with fail
  go_region_with (go_at_call 45;refine(Aq w3.drew g.sb sg2.b iR.out id t _ Ja.out).mono ?_;rintro e w4 ⟨z,rfl,rfl,hb4⟩)
  all_goals
   go_wp2_with fail
   go_ret
   exact⟨rfl,_,(HT3.out.below ((Below.refl _ w3).drew.trans hb4)).wld,by
    show ({ g with sg:=sg2,calls:=g.calls.set k { x with answer:=t } }:WG).st=_
    unfold WG.st
    simp only[Jw.out],(HT3.out.below ((Below.refl _ w3).drew.trans hb4)).grow,rfl,(HT3.out.below ((Below.refl _ w3).drew.trans hb4)).iv⟩
theorem Zt{lo:Nat}{w:World}{g:WG}(h:lI lo w g)(SC:Tab w){k:Nat}{x:uq}(hx:g.calls[k]? = some x)(hk2:k≤200)(hnm:x.name=⟨#[110,97,109,101]⟩)(han:x.answer=⟨#[]⟩)(id:Nat)(hxi:x.id=(id:Int))(v:ByteArray)(hv:v.toList=nG 3 k)(q:SP)
  (hR1:∀ w1,Below w.heap.size w w1→Calls Tryz.prog 65 #[.pointer (some ⟨g.sg.b,0,none⟩),.int .i64 id,.string v] w1 (fun e w'=>e=.returned (.int .i64 0)∧∃ g',dV lo w1 g.sg q w' g'))
  (hR2:∀ w2 DU,Srv lo w2 DU→DU.st=q→Calls Tryz.prog 65 #[.pointer (some ⟨DU.b,0,none⟩),.int .i64 id,.string v] w2 (fun e w'=>e=.returned (.int .i64 16)∧Below w2.heap.size w2 w')) :
  Calls Tryz.prog 28 #[.pointer (some ⟨g.b,0,none⟩),.int .i64 k] w (fun e w'=>e=.returned (.bool true)∧∃ g',mF lo w g { g.st with s:=q,calls:=g.calls.set k { x with answer:=v } } w' g'):=by
 obtain⟨ga,c,hcv,hcell⟩:=h.eY hx
 have hkl:k<g.calls.length:=(List.getElem?_eq_some_iff.1 hx).1
 have Jc:w.cell? ⟨g.b,17,none⟩=some (.slice (some ⟨ga,0,none⟩) g.calls.length c):=(show w.cell? ⟨g.b,17,none⟩=some g.kX from h.blk.cell 17).trans (by rw[hcv])
 have fO:(k:Int)<(g.calls.length:Int):=by omega
 have HV:=hid (show Calls Tryz.prog 17 #[.string (ByteArray.mk #[105,110,116]),.int .i64 (7*(k:Int))] w (xU (nG 0 (7*k)) w) by
  have:=yY (7*k) (by omega) w SC
  rw[show ((7*k:Nat):Int)=7*(k:Int) by omega] at this
  exact this)
 have HVV:=hid hv
 have ajT:=hid SC
 have HR1:=hid hR1
 have HR2:=hid hR2
 have HX:=hid hx
 have uI:=hid hcv
 have HA:=hid han
 have WO:=hid hnm
 have YO:=hid hxi
 have H:=hid h
 clear h SC hx hnm han hxi hv hR1 hR2 hcv hcell
 go_enter func28,ntmps28
 go_wp2_with fail
 refine HV.out.mono ?_;rintro e wa ⟨ta,rfl,hba,_,_⟩
 have HWa:=hid (H.out.below hba)
 obtain⟨gaa,ca,afX,WR⟩:=HWa.out.eY HX.out
 obtain⟨rfl,rfl⟩:ga=gaa∧c=ca:=by simpa using uI.out.symm.trans afX
 have a0:wa.cell? ⟨ga,k*5,none⟩=some (.string ⟨#[110,97,109,101]⟩):=(WR 0 _ rfl).trans (by rw[WO.out])
 have HVt:=hid (NH k (by omega) wa (ajT.out.below hba))
 have Hba:=hid hba
 clear hba afX WR
 go_wp2_with fail
 refine HVt.out.mono ?_;rintro e w1 ⟨t,rfl,hb1',ht,_⟩
 obtain rfl:t=v:=ug (ht.trans HVV.out.symm)
 have hb1:=Hba.out.trans (hb1'.mono Hba.out.size)
 clear hb1'
 have H1:=hid (H.out.below hb1)
 obtain⟨ga',c',hcv',hcell1⟩:=H1.out.eY HX.out
 obtain⟨rfl,rfl⟩:ga=ga'∧c=c':=by simpa using uI.out.symm.trans hcv'
 have n3:w1.cell? ⟨ga,k*5+3,none⟩=some (.int .i64 id):=(hcell1 3 _ rfl).trans (by rw[YO.out])
 have k0:w1.cell? ⟨g.b,0,none⟩=some (.pointer (some ⟨g.sb,0,none⟩)):=H1.out.blk.cell 0
 have jJ:=hid (show w1.drew.cell? ⟨g.sb,0,none⟩=some (.pointer (some ⟨g.sg.b,0,none⟩)) from H1.out.dX.cell 0)
 have wO:=hid (show Calls Tryz.prog 65 #[.pointer (some ⟨g.sg.b,0,none⟩),.int .i64 id,.string t] w1.drew (fun e w'=>∃ z:Int,e=.returned (.int .i64 z)∧(z=0∧∃ g',dV lo w1.drew g.sg q w' g')) by
  refine(HR1.out w1.drew hb1.drew).mono ?_
  rintro e w' ⟨rfl,hh⟩
  exact⟨0,rfl,rfl,hh⟩)
 have Hb1:=hid hb1
 clear hb1 ht hcv' hcell1
 go_wp2_with fail
 go_region_with (go_at_call 45;refine(Aq w1.drew g.sb g.sg.b jJ.out id t _ wO.out).mono ?_;rintro e w2 ⟨z,rfl,rfl,sg2,h2⟩)
 all_goals
  have hT2:=(mF.refl H.out Hb1.out.drew).trans (H1.out.drew.lK h2)
  obtain⟨ga2,c2,hcv2,hcell2⟩:=hT2.wld.eY HX.out
  obtain⟨rfl,rfl⟩:ga=ga2∧c=c2:=by simpa using uI.out.symm.trans hcv2
  have m2:w2.cell? ⟨ga,k*5+2,none⟩=some (.string ⟨#[]⟩):=(hcell2 2 _ rfl).trans (by rw[HA.out])
  have f2:w2.frozen? ⟨ga,k*5+2,none⟩=false:=by
   have:=hT2.wld.iY
   rw[hcv2] at this
   exact iD this _
  have kF:=hT2.trans (hT2.wld.WJ (k:=k) (j:=2) (x:=x) (x':={ x with answer:=t }) (v:=.string t) HX.out (by decide) rfl hcv2)
  obtain⟨w3,hw3⟩:∃ w3,w2.setCell ⟨ga,k*5+2,none⟩ (.string t)=w3:=⟨_,rfl⟩
  rw[hw3] at kF
  have hlk:k<g.calls.length:=hkl
  obtain⟨ga3,c3,WQ,oJ⟩:=kF.wld.eY (k:=k) (x:={ x with answer:=t }) (by show (g.calls.set k _)[k]? = _;simp[hlk])
  obtain⟨rfl,rfl⟩:ga=ga3∧c=c3:=by
   have:=uI.out.symm.trans WQ
   simp at this
   exact⟨this.1,this.2⟩
  have r3:w3.cell? ⟨ga,k*5+3,none⟩=some (.int .i64 id):=(oJ 3 _ rfl).trans (by show some (Value.int .i64 x.id)=_;rw[YO.out])
  have r0:w3.cell? ⟨g.b,0,none⟩=some (.pointer (some ⟨g.sb,0,none⟩)):=kF.wld.blk.cell 0
  have HW3:=hid kF.wld
  have HT3:=hid kF
  have Jw:=hid h2.st
  have iR:=hid (show w3.drew.cell? ⟨g.sb,0,none⟩=some (.pointer (some ⟨sg2.b,0,none⟩)) from HW3.out.dX.cell 0)
  have Ja:=hid (show Calls Tryz.prog 65 #[.pointer (some ⟨sg2.b,0,none⟩),.int .i64 id,.string t] w3.drew (fun e w'=>∃ z:Int,e=.returned (.int .i64 z)∧(z=16∧Below w3.drew.heap.size w3.drew w')) by
   refine(HR2.out w3.drew sg2 HW3.out.drew.srv Jw.out).mono ?_
   rintro e w' ⟨rfl,hh⟩
   exact⟨16,rfl,rfl,hh⟩)
  clear hT2 hcv2 hcell2 kF WQ oJ h2
  go_wp2_with fail
  go_region_with (go_at_call 45;refine(Aq w3.drew g.sb sg2.b iR.out id t _ Ja.out).mono ?_;rintro e w4 ⟨z,rfl,rfl,hb4⟩)
  all_goals
   go_wp2_with fail
   go_ret
   exact⟨rfl,_,(HT3.out.below ((Below.refl _ w3).drew.trans hb4)).wld,by
    show ({ g with sg:=sg2,calls:=g.calls.set k { x with answer:=t } }:WG).st=_
    unfold WG.st
    simp only[Jw.out],(HT3.out.below ((Below.refl _ w3).drew.trans hb4)).grow,rfl,(HT3.out.below ((Below.refl _ w3).drew.trans hb4)).iv⟩
end Go.Proofs.YtolfcabodiphmaaGreatDoor
