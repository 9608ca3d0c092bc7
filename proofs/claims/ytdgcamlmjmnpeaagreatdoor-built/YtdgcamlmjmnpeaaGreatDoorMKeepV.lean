/- pick of package courierkeep. -/
import Derived.Test.YtdgcamlmjmnpeaaGreatDoorMFrB
import Derived.Test.YtdgcamlmjmnpeaaGreatDoorMFrA
import Derived.Test.YtdgcamlmjmnpeaaGreatDoorShelf4
namespace Go.Proofs.YtdgcamlmjmnpeaaGreatDoor
open Go.RowKit
set_option maxRecDepth 100000 in
set_option maxHeartbeats 1000000 in
theorem pick_any (c:Int) (n:Nat) (w:World) (h0:0 < n) (h1:n ≤ maxLen) (hc:-9223372036854775808 ≤ c ∧ c ≤ 9223372036854775807) :
  Calls Tryz.prog 6 #[.int .i64 c,.int .i64 n] w fun e w'=>e = .returned (.int .i64 (pickN c n)) ∧ w' = w:=by
 unfold maxLen at h1
 by_cases hneg:c < 0
 ·have HP:=hid (pickN_neg (n:=n) h0 hneg)
  go_enter Tryz.func6,Tryz.ntmps6
  go_wp2_with fail
  go_ret
  refine ⟨ret_int ?_,rfl⟩
  rw [HP.out]
 ·have HP:=hid (pickN_pos (n:=n) h0 hneg)
  go_enter Tryz.func6,Tryz.ntmps6
  go_wp2_with fail
  go_ret
  refine ⟨ret_int ?_,rfl⟩
  rw [HP.out]
end Go.Proofs.YtdgcamlmjmnpeaaGreatDoor
namespace Go.Proofs.YtdgcamlmjmnpeaaGreatDoor
open Go.RowKit
theorem gTabK:Tryz.prog.globalNamed "internal/strconv.uint64pow10" = some 0:=by kernel_rfl
structure Tab (w:World):Prop where
 t:Lib.TabIs Tryz.prog w "internal/strconv.uint64pow10" .u64 Lib.pow10Tab
 lt:0 < w.heap.size
theorem Tab.below {w w':World} (h:Tab w) (hb:Below w.heap.size w w'):Tab w':=by
 refine ⟨?_,Nat.lt_of_lt_of_le h.lt hb.size⟩
 have:=h.t
 unfold Lib.TabIs World.var? at this ⊢
 rw [gTabK] at this ⊢
 simp only [Option.bind_some] at this ⊢
 rw [hb.block _ h.lt]
 exact this
theorem below_growK (w:World) (n:Nat) (os:Array Obj):Below w.heap.size w (Sort.grow (w.drewN n) os) :=
 ⟨rfl,rfl,rfl,by simp [Sort.grow],fun k hk=>by
  have h1:=(below_drewN (Below.refl w.heap.size w) n).block k hk
  have h2:(w.drewN n).heap = w.heap:=rfl
  simp only [Sort.grow,h2]
  rw [Array.getElem?_append_left hk]⟩
theorem dec_shortK:∀ (k u:Nat),u < 10 ^ (k + 1) → (Lib.decDigits u).length ≤ k + 1
 | 0,u,h=>by rw [Lib.decDigits,dif_pos (by omega)];simp
 | k + 1,u,h=>by
  rw [Lib.decDigits]
  by_cases h1:u < 10
  ·rw [dif_pos h1];simp
  ·rw [dif_neg h1,List.length_append]
   have:=dec_shortK k (u / 10) (by rw [Nat.pow_succ] at h;omega)
   simp;omega
def itW (n:Nat):List UInt8:=Lib.itoa (n:Int)
theorem itW_len (n:Nat) (h:n ≤ 100000):(itW n).length ≤ 6:=by
 unfold itW Lib.itoa
 rw [if_neg (by omega)]
 exact dec_shortK 5 _ (by show _ < 10 ^ 6;have:(10:Nat) ^ 6 = 1000000:=(by decide);omega)
theorem size_listW (t:ByteArray):t.toList.length = t.size:=by rw [ByteArray.toList_eq];rfl
theorem app_listW (a b:ByteArray):(a ++ b).toList = a.toList ++ b.toList:=by rw [ByteArray.toList_eq,ByteArray.toList_eq,ByteArray.toList_eq];simp
theorem litB (l:Array UInt8):(ByteArray.mk l).toList = l.toList:=by rw [ByteArray.toList_eq]
def NumbPost (n:Nat) (w:World) (e:Ending) (w':World):Prop:=∃ t:ByteArray,e = .returned (.string t) ∧ Below w.heap.size w w' ∧ t.toList = itW n ∧ t.size ≤ 6
set_option maxRecDepth 100000 in
set_option maxHeartbeats 1000000 in
theorem numberK_any (n:Nat) (hn:n ≤ 100000) (w:World) (hE:Tab w):Calls Tryz.prog 11 #[.int .i64 n] w (NumbPost n w):=by
 have HE:=hid hE
 clear hE
 have HFL:=hid (show (ByteArray.mk (Lib.itoa (n:Int)).toArray).toList = itW n by rw [ByteArray.toList_eq];rfl)
 have HLN:=hid (itW_len n hn)
 obtain ⟨fb,HFB⟩:∃ fb,Hid (ByteArray.mk (Lib.itoa (n:Int)).toArray = fb):=⟨_,hid rfl⟩
 rw [HFB.out] at HFL
 have hfs:fb.size ≤ 6:=by rw [← size_listW,HFL.out];exact HLN.out
 go_enter Tryz.func11,Tryz.ntmps11
 go_wp2_with fail
 refine (Tryz.x_strconv_Itoa (n:Int) (by omega) (by omega) _ HE.out.t).mono ?_;rintro e w1 ⟨rfl,kk,os,hw1⟩
 rw [HFB.out]
 have hb1:Below w.heap.size w w1:=by rw [hw1];exact below_growK _ _ _
 clear hw1
 go_wp2_with fail
 go_ret
 exact ⟨fb,rfl,hb1,HFL.out,hfs⟩
def ValPost (V:List UInt8) (w:World) (e:Ending) (w':World):Prop:=∃ t:ByteArray,e = .returned (.string t) ∧ Below w.heap.size w w' ∧ t.toList = V ∧ t.size ≤ 200
def valW (b:Nat) (n:Nat):List UInt8:=match b with
 | 0=>itW n
 | 1=>[123,120,58] ++ itW n ++ [44,121,58,45,49] ++ (if n % 2 = 0 then [44,116,97,103,58,34,92,48,97] ++ itW (n % 7) ++ [34] else []) ++ (if n % 3 = 0 then [44,109,111,114,101,58,91,123,120,58,48,44,121,58] ++ itW (n % 5) ++ [44,109,111,114,101,58,91,93,125,93,125] else [44,109,111,114,101,58,91,93,125])
 | 2=>if n % 2 = 0 then [114,101,100] else [103,114,101,101,110]
 | _=>[34,116] ++ itW n ++ [92,48,48,34]
set_option maxRecDepth 100000 in
set_option maxHeartbeats 2000000 in
theorem value_int (n:Nat) (hn:n ≤ 2000) (w:World) (hE:Tab w):Calls Tryz.prog 7 #[.string (ByteArray.mk #[105,110,116]),.int .i64 n] w (ValPost (valW 0 n) w):=by
 have HE:=hid hE
 clear hE
 have HN:=hid (show ∀ w',Below w.heap.size w w' → ∀ m:Nat,m ≤ 100000 → Calls Tryz.prog 11 #[.int .i64 m] w' (fun e w''=>∃ t:ByteArray,e = .returned (.string t) ∧ Below w.heap.size w w'' ∧ t.toList = itW m ∧ t.size ≤ 6) from fun w' hw' m hm=>(numberK_any m hm w' (HE.out.below hw')).mono (fun e w'' h=>by obtain ⟨t,h1,h2,h3,h4⟩:=h;exact ⟨t,h1,hw'.trans (h2.mono hw'.size),h3,h4⟩))
 go_enter Tryz.func7,Tryz.ntmps7
 go_wp2_with fail
 (first | (refine (HN.out _ (by repeat (first | with_reducible assumption | with_reducible exact Below.refl _ _ | with_reducible apply Below.drew)) n (by omega)).mono ?_;rintro e w1 ⟨t1,rfl,hb1,ht1,hs1⟩;have HT1:=hid ht1;clear ht1) | (first | (go_region_with (first | (go_at_call 11;refine (HN.out _ (by repeat (first | with_reducible assumption | with_reducible exact Below.refl _ _ | with_reducible apply Below.drew)) n (by omega)).mono ?_;rintro e w1 ⟨t1,rfl,hb1,ht1,hs1⟩;have HT1:=hid ht1;clear ht1))) | fail))
 go_wp2_with fail
 go_ret
 exact ⟨t1,rfl,hb1,HT1.out,by omega⟩
set_option maxRecDepth 100000 in
set_option maxHeartbeats 2000000 in
theorem value_color (n:Nat) (hn:n ≤ 2000) (w:World) (hE:Tab w):Calls Tryz.prog 7 #[.string (ByteArray.mk #[99,111,108,111,114]),.int .i64 n] w (ValPost (valW 2 n) w):=by
 have HE:=hid hE
 clear hE
 have HN:=hid (show ∀ w',Below w.heap.size w w' → ∀ m:Nat,m ≤ 100000 → Calls Tryz.prog 11 #[.int .i64 m] w' (fun e w''=>∃ t:ByteArray,e = .returned (.string t) ∧ Below w.heap.size w w'' ∧ t.toList = itW m ∧ t.size ≤ 6) from fun w' hw' m hm=>(numberK_any m hm w' (HE.out.below hw')).mono (fun e w'' h=>by obtain ⟨t,h1,h2,h3,h4⟩:=h;exact ⟨t,h1,hw'.trans (h2.mono hw'.size),h3,h4⟩))
 by_cases h2:n % 2 = 0
 ·have h2I:((n:Int) % 2 == 0) = true:=by simp;omega
  have HV:=hid (show valW 2 n = [114,101,100] from if_pos h2)
  clear h2
  go_enter Tryz.func7,Tryz.ntmps7
  go_wp2_with fail
  go_ret
  exact ⟨ByteArray.mk #[114,101,100],rfl,Below.refl _ _,by rw [HV.out,ByteArray.toList_eq],by decide⟩
 ·have h2I:((n:Int) % 2 == 0) = false:=by simp;omega
  have HV:=hid (show valW 2 n = [103,114,101,101,110] from if_neg h2)
  clear h2
  go_enter Tryz.func7,Tryz.ntmps7
  go_wp2_with fail
  go_ret
  exact ⟨ByteArray.mk #[103,114,101,101,110],rfl,Below.refl _ _,by rw [HV.out,ByteArray.toList_eq],by decide⟩
set_option maxRecDepth 100000 in
set_option maxHeartbeats 2000000 in
theorem value_text (n:Nat) (hn:n ≤ 2000) (w:World) (hE:Tab w):Calls Tryz.prog 7 #[.string (ByteArray.mk #[116,101,120,116]),.int .i64 n] w (ValPost (valW 3 n) w):=by
 have HE:=hid hE
 clear hE
 have HN:=hid (show ∀ w',Below w.heap.size w w' → ∀ m:Nat,m ≤ 100000 → Calls Tryz.prog 11 #[.int .i64 m] w' (fun e w''=>∃ t:ByteArray,e = .returned (.string t) ∧ Below w.heap.size w w'' ∧ t.toList = itW m ∧ t.size ≤ 6) from fun w' hw' m hm=>(numberK_any m hm w' (HE.out.below hw')).mono (fun e w'' h=>by obtain ⟨t,h1,h2,h3,h4⟩:=h;exact ⟨t,h1,hw'.trans (h2.mono hw'.size),h3,h4⟩))
 have hz1:(ByteArray.mk #[34,116]).size = 2:=rfl
 have hz2:(ByteArray.mk #[92,48,48,34]).size = 4:=rfl
 go_enter Tryz.func7,Tryz.ntmps7
 go_wp2_with fail
 (first | (refine (HN.out _ (by repeat (first | with_reducible assumption | with_reducible exact Below.refl _ _ | with_reducible apply Below.drew)) n (by omega)).mono ?_;rintro e w1 ⟨t1,rfl,hb1,ht1,hs1⟩;have HT1:=hid ht1;clear ht1) | (first | (go_region_with (first | (go_at_call 11;refine (HN.out _ (by repeat (first | with_reducible assumption | with_reducible exact Below.refl _ _ | with_reducible apply Below.drew)) n (by omega)).mono ?_;rintro e w1 ⟨t1,rfl,hb1,ht1,hs1⟩;have HT1:=hid ht1;clear ht1))) | fail))
 have hov1:¬ 9223372036854775807 < 2 + t1.size:=by omega
 have hov2:¬ 9223372036854775807 < 2 + t1.size + 4:=by omega
 go_wp2_with fail
 go_ret
 exact ⟨ByteArray.mk #[34,116] ++ t1 ++ ByteArray.mk #[92,48,48,34],rfl,hb1,by rw [app_listW,app_listW,HT1.out,ByteArray.toList_eq,ByteArray.toList_eq];rfl,by rw [ByteArray.size_append,ByteArray.size_append,hz1,hz2];omega⟩
set_option maxRecDepth 100000 in
set_option maxHeartbeats 2000000 in
theorem value_pt (n:Nat) (hn:n ≤ 2000) (w:World) (hE:Tab w):Calls Tryz.prog 7 #[.string (ByteArray.mk #[112,111,105,110,116]),.int .i64 n] w (ValPost (valW 1 n) w):=by
 have HE:=hid hE
 clear hE
 have HN:=hid (show ∀ w',Below w.heap.size w w' → ∀ m:Nat,m ≤ 100000 → Calls Tryz.prog 11 #[.int .i64 m] w' (fun e w''=>∃ t:ByteArray,e = .returned (.string t) ∧ Below w.heap.size w w'' ∧ t.toList = itW m ∧ t.size ≤ 6) from fun w' hw' m hm=>(numberK_any m hm w' (HE.out.below hw')).mono (fun e w'' h=>by obtain ⟨t,h1,h2,h3,h4⟩:=h;exact ⟨t,h1,hw'.trans (h2.mono hw'.size),h3,h4⟩))
 by_cases h2:n % 2 = 0
 ·by_cases h3:n % 3 = 0
  ·have h2I:((n:Int) % 2 == 0) = true:=by simp;omega
   have h3I:((n:Int) % 3 == 0) = true:=by simp;omega
   have h7:(n:Int) % 7 = ((n % 7:Nat):Int):=by omega
   have h5:(n:Int) % 5 = ((n % 5:Nat):Int):=by omega
   have h7b:n % 7 ≤ 100000:=by omega
   have h5b:n % 5 ≤ 100000:=by omega
   have HV:=hid (show valW 1 n = [123,120,58] ++ itW n ++ [44,121,58,45,49] ++ ([44,116,97,103,58,34,92,48,97] ++ itW (n % 7) ++ [34]) ++ ([44,109,111,114,101,58,91,123,120,58,48,44,121,58] ++ itW (n % 5) ++ [44,109,111,114,101,58,91,93,125,93,125]) from by unfold valW;rw [if_pos h2,if_pos h3];rfl)
   generalize n % 7 = n7 at *
   generalize n % 5 = n5 at *
   clear h2 h3
   go_enter Tryz.func7,Tryz.ntmps7
   go_wp2_with fail
   (first | (refine (HN.out _ (by repeat (first | with_reducible assumption | with_reducible exact Below.refl _ _ | with_reducible apply Below.drew)) n (by omega)).mono ?_;rintro e w1 ⟨t1,rfl,hb1,ht1,hs1⟩;have HT1:=hid ht1;clear ht1) | (first | (go_region_with (first | (go_at_call 11;refine (HN.out _ (by repeat (first | with_reducible assumption | with_reducible exact Below.refl _ _ | with_reducible apply Below.drew)) n (by omega)).mono ?_;rintro e w1 ⟨t1,rfl,hb1,ht1,hs1⟩;have HT1:=hid ht1;clear ht1))) | fail))
   all_goals
    have hz1:(ByteArray.mk #[123,120,58]).size = 3:=rfl
    have hz2:(ByteArray.mk #[44,121,58,45,49]).size = 5:=rfl
    go_wp2_with fail
    (first | (refine (HN.out _ (by repeat (first | with_reducible assumption | with_reducible exact Below.refl _ _ | with_reducible apply Below.drew)) n7 (by omega)).mono ?_;rintro e w2 ⟨t2,rfl,hb2,ht2,hs2⟩;have HT2:=hid ht2;clear ht2) | (first | (go_region_with (first | (go_at_call 11;refine (HN.out _ (by repeat (first | with_reducible assumption | with_reducible exact Below.refl _ _ | with_reducible apply Below.drew)) n7 (by omega)).mono ?_;rintro e w2 ⟨t2,rfl,hb2,ht2,hs2⟩;have HT2:=hid ht2;clear ht2))) | fail))
    all_goals
     have hz3:(ByteArray.mk #[44,116,97,103,58,34,92,48,97]).size = 9:=rfl
     have hz4:(ByteArray.mk #[34]).size = 1:=rfl
     go_wp2_with fail
     (first | (refine (HN.out _ (by repeat (first | with_reducible assumption | with_reducible exact Below.refl _ _ | with_reducible apply Below.drew)) n5 (by omega)).mono ?_;rintro e w3 ⟨t3,rfl,hb3,ht3,hs3⟩;have HT3:=hid ht3;clear ht3) | (first | (go_region_with (first | (go_at_call 11;refine (HN.out _ (by repeat (first | with_reducible assumption | with_reducible exact Below.refl _ _ | with_reducible apply Below.drew)) n5 (by omega)).mono ?_;rintro e w3 ⟨t3,rfl,hb3,ht3,hs3⟩;have HT3:=hid ht3;clear ht3))) | fail))
     all_goals
      go_wp2_with fail
      go_ret
      exact ⟨ByteArray.mk #[123,120,58] ++ t1 ++ ByteArray.mk #[44,121,58,45,49] ++ ByteArray.mk #[44,116,97,103,58,34,92,48,97] ++ t2 ++ ByteArray.mk #[34] ++ ByteArray.mk #[44,109,111,114,101,58,91,123,120,58,48,44,121,58] ++ t3 ++ ByteArray.mk #[44,109,111,114,101,58,91,93,125,93,125],rfl,hb3,by simp only [app_listW,HT1.out,HT2.out,HT3.out,litB,HV.out];simp,by simp only [ByteArray.size_append];have e:∀ l:Array UInt8,(ByteArray.mk l).size = l.size:=fun _=>rfl;simp only [e];simp;omega⟩
  ·have h2I:((n:Int) % 2 == 0) = true:=by simp;omega
   have h3I:((n:Int) % 3 == 0) = false:=by simp;omega
   have h7:(n:Int) % 7 = ((n % 7:Nat):Int):=by omega
   have h5:(n:Int) % 5 = ((n % 5:Nat):Int):=by omega
   have h7b:n % 7 ≤ 100000:=by omega
   have h5b:n % 5 ≤ 100000:=by omega
   have HV:=hid (show valW 1 n = [123,120,58] ++ itW n ++ [44,121,58,45,49] ++ ([44,116,97,103,58,34,92,48,97] ++ itW (n % 7) ++ [34]) ++ [44,109,111,114,101,58,91,93,125] from by unfold valW;rw [if_pos h2,if_neg h3];rfl)
   generalize n % 7 = n7 at *
   generalize n % 5 = n5 at *
   clear h2 h3
   go_enter Tryz.func7,Tryz.ntmps7
   go_wp2_with fail
   (first | (refine (HN.out _ (by repeat (first | with_reducible assumption | with_reducible exact Below.refl _ _ | with_reducible apply Below.drew)) n (by omega)).mono ?_;rintro e w1 ⟨t1,rfl,hb1,ht1,hs1⟩;have HT1:=hid ht1;clear ht1) | (first | (go_region_with (first | (go_at_call 11;refine (HN.out _ (by repeat (first | with_reducible assumption | with_reducible exact Below.refl _ _ | with_reducible apply Below.drew)) n (by omega)).mono ?_;rintro e w1 ⟨t1,rfl,hb1,ht1,hs1⟩;have HT1:=hid ht1;clear ht1))) | fail))
   all_goals
    have hz1:(ByteArray.mk #[123,120,58]).size = 3:=rfl
    have hz2:(ByteArray.mk #[44,121,58,45,49]).size = 5:=rfl
    go_wp2_with fail
    (first | (refine (HN.out _ (by repeat (first | with_reducible assumption | with_reducible exact Below.refl _ _ | with_reducible apply Below.drew)) n7 (by omega)).mono ?_;rintro e w2 ⟨t2,rfl,hb2,ht2,hs2⟩;have HT2:=hid ht2;clear ht2) | (first | (go_region_with (first | (go_at_call 11;refine (HN.out _ (by repeat (first | with_reducible assumption | with_reducible exact Below.refl _ _ | with_reducible apply Below.drew)) n7 (by omega)).mono ?_;rintro e w2 ⟨t2,rfl,hb2,ht2,hs2⟩;have HT2:=hid ht2;clear ht2))) | fail))
    all_goals
     have hz3:(ByteArray.mk #[44,116,97,103,58,34,92,48,97]).size = 9:=rfl
     have hz4:(ByteArray.mk #[34]).size = 1:=rfl
     go_wp2_with fail
     go_ret
     exact ⟨ByteArray.mk #[123,120,58] ++ t1 ++ ByteArray.mk #[44,121,58,45,49] ++ ByteArray.mk #[44,116,97,103,58,34,92,48,97] ++ t2 ++ ByteArray.mk #[34] ++ ByteArray.mk #[44,109,111,114,101,58,91,93,125],rfl,hb2,by simp only [app_listW,HT1.out,HT2.out,litB,HV.out];simp,by simp only [ByteArray.size_append];have e:∀ l:Array UInt8,(ByteArray.mk l).size = l.size:=fun _=>rfl;simp only [e];simp;omega⟩
 ·by_cases h3:n % 3 = 0
  ·have h2I:((n:Int) % 2 == 0) = false:=by simp;omega
   have h3I:((n:Int) % 3 == 0) = true:=by simp;omega
   have h7:(n:Int) % 7 = ((n % 7:Nat):Int):=by omega
   have h5:(n:Int) % 5 = ((n % 5:Nat):Int):=by omega
   have h7b:n % 7 ≤ 100000:=by omega
   have h5b:n % 5 ≤ 100000:=by omega
   have HV:=hid (show valW 1 n = [123,120,58] ++ itW n ++ [44,121,58,45,49] ++ [] ++ ([44,109,111,114,101,58,91,123,120,58,48,44,121,58] ++ itW (n % 5) ++ [44,109,111,114,101,58,91,93,125,93,125]) from by unfold valW;rw [if_neg h2,if_pos h3];rfl)
   generalize n % 7 = n7 at *
   generalize n % 5 = n5 at *
   clear h2 h3
   go_enter Tryz.func7,Tryz.ntmps7
   go_wp2_with fail
   (first | (refine (HN.out _ (by repeat (first | with_reducible assumption | with_reducible exact Below.refl _ _ | with_reducible apply Below.drew)) n (by omega)).mono ?_;rintro e w1 ⟨t1,rfl,hb1,ht1,hs1⟩;have HT1:=hid ht1;clear ht1) | (first | (go_region_with (first | (go_at_call 11;refine (HN.out _ (by repeat (first | with_reducible assumption | with_reducible exact Below.refl _ _ | with_reducible apply Below.drew)) n (by omega)).mono ?_;rintro e w1 ⟨t1,rfl,hb1,ht1,hs1⟩;have HT1:=hid ht1;clear ht1))) | fail))
   all_goals
    have hz1:(ByteArray.mk #[123,120,58]).size = 3:=rfl
    have hz2:(ByteArray.mk #[44,121,58,45,49]).size = 5:=rfl
    go_wp2_with fail
    (first | (refine (HN.out _ (by repeat (first | with_reducible assumption | with_reducible exact Below.refl _ _ | with_reducible apply Below.drew)) n5 (by omega)).mono ?_;rintro e w3 ⟨t3,rfl,hb3,ht3,hs3⟩;have HT3:=hid ht3;clear ht3) | (first | (go_region_with (first | (go_at_call 11;refine (HN.out _ (by repeat (first | with_reducible assumption | with_reducible exact Below.refl _ _ | with_reducible apply Below.drew)) n5 (by omega)).mono ?_;rintro e w3 ⟨t3,rfl,hb3,ht3,hs3⟩;have HT3:=hid ht3;clear ht3))) | fail))
    all_goals
     go_wp2_with fail
     go_ret
     exact ⟨ByteArray.mk #[123,120,58] ++ t1 ++ ByteArray.mk #[44,121,58,45,49] ++ ByteArray.mk #[44,109,111,114,101,58,91,123,120,58,48,44,121,58] ++ t3 ++ ByteArray.mk #[44,109,111,114,101,58,91,93,125,93,125],rfl,hb3,by simp only [app_listW,HT1.out,HT3.out,litB,HV.out];simp,by simp only [ByteArray.size_append];have e:∀ l:Array UInt8,(ByteArray.mk l).size = l.size:=fun _=>rfl;simp only [e];simp;omega⟩
  ·have h2I:((n:Int) % 2 == 0) = false:=by simp;omega
   have h3I:((n:Int) % 3 == 0) = false:=by simp;omega
   have h7:(n:Int) % 7 = ((n % 7:Nat):Int):=by omega
   have h5:(n:Int) % 5 = ((n % 5:Nat):Int):=by omega
   have h7b:n % 7 ≤ 100000:=by omega
   have h5b:n % 5 ≤ 100000:=by omega
   have HV:=hid (show valW 1 n = [123,120,58] ++ itW n ++ [44,121,58,45,49] ++ [] ++ [44,109,111,114,101,58,91,93,125] from by unfold valW;rw [if_neg h2,if_neg h3];rfl)
   generalize n % 7 = n7 at *
   generalize n % 5 = n5 at *
   clear h2 h3
   go_enter Tryz.func7,Tryz.ntmps7
   go_wp2_with fail
   (first | (refine (HN.out _ (by repeat (first | with_reducible assumption | with_reducible exact Below.refl _ _ | with_reducible apply Below.drew)) n (by omega)).mono ?_;rintro e w1 ⟨t1,rfl,hb1,ht1,hs1⟩;have HT1:=hid ht1;clear ht1) | (first | (go_region_with (first | (go_at_call 11;refine (HN.out _ (by repeat (first | with_reducible assumption | with_reducible exact Below.refl _ _ | with_reducible apply Below.drew)) n (by omega)).mono ?_;rintro e w1 ⟨t1,rfl,hb1,ht1,hs1⟩;have HT1:=hid ht1;clear ht1))) | fail))
   all_goals
    have hz1:(ByteArray.mk #[123,120,58]).size = 3:=rfl
    have hz2:(ByteArray.mk #[44,121,58,45,49]).size = 5:=rfl
    go_wp2_with fail
    go_ret
    exact ⟨ByteArray.mk #[123,120,58] ++ t1 ++ ByteArray.mk #[44,121,58,45,49] ++ ByteArray.mk #[44,109,111,114,101,58,91,93,125],rfl,hb1,by simp only [app_listW,HT1.out,litB,HV.out];simp,by simp only [ByteArray.size_append];have e:∀ l:Array UInt8,(ByteArray.mk l).size = l.size:=fun _=>rfl;simp only [e];simp;omega⟩
end Go.Proofs.YtdgcamlmjmnpeaaGreatDoor
namespace Go.Proofs.YtdgcamlmjmnpeaaGreatDoor
open Go.RowKit
def schemaW:ByteArray:=ByteArray.mk #[109,101,115,115,97,103,101,32,112,111,105,110,116,32,123,32,49,32,120,32,105,110,116,32,50,32,121,32,105,110,116,32,53,32,116,97,103,32,111,112,116,32,116,101,120,116,32,55,32,109,111,114,101,32,108,105,115,116,32,112,111,105,110,116,32,125,32,101,110,117,109,32,99,111,108,111,114,32,123,32,114,101,100,32,103,114,101,101,110,32,125,32,115,116,114,101,97,109,32,116,105,99,107,115,32,105,110,116,32,115,116,114,101,97,109,32,109,97,114,107,115,32,112,111,105,110,116,32,115,116,114,101,97,109,32,104,117,101,115,32,99,111,108,111,114,32,99,97,108,108,32,97,100,100,32,112,111,105,110,116,32,105,110,116,32,99,97,108,108,32,110,97,109,101,32,105,110,116,32,116,101,120,116]
def EncHas (w0:World) (AE:ByteArray → ByteArray → Int → List UInt8 → Prop):Prop:=∀ (w:World) (base v:ByteArray),Below w0.heap.size w0 w → v.size ≤ 400 → Calls Tryz.prog 8 #[.string schemaW,.string base,.string v] w (fun e w'=>∃ (a:Option Addr) (c:Nat) (b:List UInt8) (E:Int),e = .returned (.tuple #[.slice a b.length c,.int .i64 E]) ∧ Below w.heap.size w w' ∧ Bys w' w.heap.size (.slice a b.length c) b ∧ AE base v E b)
def RdK (w:World) (v:Value) (L:List UInt8):Prop:=Rd w v L ∧ ∃ a c,v = .slice a L.length c ∧ L.length ≤ c
def DecHas (w0:World) (AD:ByteArray → List UInt8 → Int → List UInt8 → Prop):Prop:=∀ (w:World) (base:ByteArray) (dv:Value) (d:List UInt8),Below w0.heap.size w0 w → RdK w dv d → d.length ≤ 100 → Calls Tryz.prog 9 #[.string schemaW,.string base,dv] w (fun e w'=>∃ (t:ByteArray) (E:Int),e = .returned (.tuple #[.string t,.int .i64 E]) ∧ Below w.heap.size w w' ∧ AD base d E t.toList)
structure BFact (AE:ByteArray → ByteArray → Int → List UInt8 → Prop) (AD:ByteArray → List UInt8 → Int → List UInt8 → Prop) (base:ByteArray) (V O:List UInt8):Prop where
 p:∃ p q:List UInt8,p.length ≤ 64 ∧ q.length ≤ 64 ∧ p ≠ q ∧ (∀ v E b,v.toList = V → AE base v E b → E = 0 ∧ b = p) ∧ (∀ v E b,v.toList = O → AE base v E b → E = 0 ∧ b = q) ∧ (∀ E t,AD base p E t → E = 0 ∧ t = V) ∧ (∀ v E b,v.toList = V ++ [32] → AE base v E b → E = 5) ∧ (∀ v E b,AE (ByteArray.mk #[112,105,110,116]) v E b → E = 4) ∧ (base = ByteArray.mk #[112,111,105,110,116] → 0 < p.length ∧ (∀ E t,AD base p.dropLast E t → E = 6) ∧ (∀ E t,AD base (p ++ [1]) E t → E = 6))
end Go.Proofs.YtdgcamlmjmnpeaaGreatDoor
namespace Go.Proofs.YtdgcamlmjmnpeaaGreatDoor
open Go.RowKit
structure PFact (p:List UInt8) (off:Nat → Nat):Prop where
 z:off 0 = 0
 e:off 4 = p.length
 s:∀ m,m < 4 → off m + 1 < p.length ∧ ∃ c:UInt8,p[off m + 1]? = some c ∧ off (m + 1) = off m + 2 + c.toNat
 l:p.length ≤ 40
structure PasFact (AE:ByteArray → ByteArray → Int → List UInt8 → Prop) (AD:ByteArray → List UInt8 → Int → List UInt8 → Prop) (V u:List UInt8) (J f:Nat) (p:List UInt8) (off:Nat → Nat):Prop where
 enc:∀ v E b,v.toList = V → AE (ByteArray.mk #[112,111,105,110,116]) v E b → E = 0 ∧ b = p
 pf:PFact p off
 ok:u.length ≤ 10 → ∀ E t,AD (ByteArray.mk #[112,111,105,110,116]) (p.take (off (J + 1)) ++ ([f.toUInt8,u.length.toUInt8] ++ (u ++ p.drop (off (J + 1))))) E t → E = 0 ∧ t = V
 bad:u.length ≤ 10 → ∀ r E t,AD (ByteArray.mk #[112,111,105,110,116]) (p.take (off (J + 1)) ++ (2 :: r)) E t → E = 6
end Go.Proofs.YtdgcamlmjmnpeaaGreatDoor
