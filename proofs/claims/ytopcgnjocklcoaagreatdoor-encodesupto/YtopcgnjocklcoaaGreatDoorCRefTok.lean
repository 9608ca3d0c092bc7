/- tokens of package courierref: for every schema of at most 400 bytes it gives the list toksOf. -/
import Derived.Test.YtopcgnjocklcoaaGreatDoorGLeaf
import Derived.Deep.RegionHeld3
import Derived.Deep.RegionLaw
import Derived.Deep.LoopGhost
namespace Go.Proofs.YtopcgnjocklcoaaGreatDoor
open Go.RowKit

theorem Tryz.infoTok : (Tryz.prog.info? 92).map (fun i => (i.zero, i.size, i.bytes)) = some (some (.agg #[.string ⟨#[]⟩, .int .i64 0, .bool false]), 3, 32) := by kernel_rfl

/-- append onto a slice of the call's own, as one step of a region that draws -/
theorem step_append_own {P : Program} {ops : Array Oper} {o : Oper} {a : Act} {w : World} {K : Act → World → Prop} {Q : Exit → Act → World → Prop} {E : Prop}
    (hg : o.guard = none) (s x : Operand) (t : TypeId)
    (ho : o.op = .call { callee := .builtin .append, args := #[s, x], argTypes := #[t, t] })
    (base : Nat) (e : TypeId) (i : TypeInfo) (z : Value) (size bytes : Nat) (ht : P.underlying t = some (.slice e)) (hi : P.info? e = some i) (hz : i.zero = some z)
    (hsize : i.size = size) (hby : i.bytes = bytes) (hzs : z.cells.size = size) (hsz : 0 < size)
    (v : Value) (n : Nat) (xs : List Value) (hs : a.eval s = v) (hown : w.ownsRow base e size v n xs)
    (ad : Addr) (m c : Nat) (news : List Value) (hx : a.eval x = .slice (some ad) m c) (hl : news.length = m * size) (hnews : ∀ j u, news[j]? = some u → w.cell? (ad.add j) = some u) (h1 : ∀ u ∈ news, u.oneCell' = true)
    (h63 : n + m ≤ maxLen) (hbytes : (n + m) * bytes ≤ 140737488355328) (hbase : base ≤ w.heap.size)
    (h : ∀ v' w', w'.ownsRow base e size v' (n + m) (xs ++ news) → w.grownBy w' v.ownBlock → (v' = .slice none 0 0 ↔ v = .slice none 0 0 ∧ m = 0) → K (a.put o.dst v') w') :
    if Region.wanted o (yielded ops a.tmps) = true then Oper.wp P o a w K Q else E := by
  rw [if_pos (by simp [Region.wanted, hg])]
  exact wp_append_own w s x t ho base e i z size bytes ht hi hz hsize hby hzs hsz v n xs hs hown ad m c news hx hl hnews h1 h63 hbytes hbase h

/-- three cells of a new block -/
theorem cells_three (w : World) (c0 c1 c2 : Value) (t : TypeId) (j : Nat) (u : Value) (h : [c0, c1, c2][j]? = some u) : (w.alloc (.cells #[c0, c1, c2] t)).cell? ((⟨w.heap.size, 0, none⟩ : Addr).add j) = some u := by
  match j, h with
  | 0, h => simp at h; subst h; simp [Addr.add]
  | 1, h => simp at h; subst h; simp [Addr.add]
  | 2, h => simp at h; subst h; simp [Addr.add]

theorem mark_bad1 (x : Int) (h : (x != 123) = true) : (x != 125) = (!(x == 123) && !(x == 125)) := by
  rw [bne_iff_ne] at h; simp [h, bne]
theorem mark_bad0 (x : Int) (h : (x != 123) = false) : false = (!(x == 123) && !(x == 125)) := by
  simp at h; simp [h]
theorem tok_list {s : ByteArray} {L D : List Tok} {k j : Nat} {t : Tok} (HL : L = D ++ toksAt s k) (HX : toksAt s k = t :: toksAt s j) : L = (D ++ [t]) ++ toksAt s j := by
  rw [HL, HX]; simp
theorem tok_owns {w2 : World} {b : Nat} {D : List Tok} {t : Tok} {v : Value} {xs : List Value} (hx : xs = tokCells t) (h : w2.ownsRow b 92 3 v (D.length + 1) (D.flatMap tokCells ++ xs)) :
    w2.ownsRow b 92 3 v (D ++ [t]).length ((D ++ [t]).flatMap tokCells) := by
  subst hx
  simpa using h
theorem below_append {w wr w2 : World} {e : TypeId} {size n : Nat} {v : Value} {xs : List Value} {o : Obj} (hbel : Below w.heap.size w wr) (hown : wr.ownsRow w.heap.size e size v n xs) (hg : ((wr.alloc o).drew).grownBy w2 v.ownBlock) : Below w.heap.size w w2 :=
  ((hbel.alloc hbel.size o).drew).grown hg (by have := hbel.size; show w.heap.size ≤ (wr.alloc o).heap.size; simp; omega) (fun k hk => (hown.lt k hk).1)
theorem below_append' {w wr w2 : World} {e : TypeId} {size n : Nat} {v : Value} {xs : List Value} {o : Obj} (hbel : Below w.heap.size w wr) (hown : wr.ownsRow w.heap.size e size v n xs) (hg : (wr.alloc o).grownBy w2 v.ownBlock) : Below w.heap.size w w2 :=
  (hbel.alloc hbel.size o).grown hg (by have := hbel.size; simp; omega) (fun k hk => (hown.lt k hk).1)

set_option maxRecDepth 100000 in
set_option maxHeartbeats 1000000 in
theorem tokens_any (s : ByteArray) (w : World) (hs : s.size ≤ 400) :
    Calls Tryz.prog 44 #[.string s] w fun e w' => ∃ v, e = .returned v ∧ w'.ownsRow w.heap.size 92 3 v (toksOf s).length ((toksOf s).flatMap tokCells) ∧ Below w.heap.size w w' := by
  obtain ⟨i0, hi, hz0, hz1, hz2⟩ := info_parts Tryz.infoTok
  have H0 : Hid (toksOf s = toksAt s 0) := rfl
  generalize toksOf s = L at *
  go_enter Tryz.func44, Tryz.ntmps44
  go_wp2
  go_loopg [3, 4, 5, 6, 7, 8] s.size (fun gk v i a r n m wr => ∃ k D, k + gk = s.size ∧ i = .int .i64 (k : Nat) ∧ L = D ++ toksAt s k ∧ wr.ownsRow w.heap.size 92 3 v D.length (D.flatMap tokCells) ∧ D.length ≤ k ∧ Below w.heap.size w wr)
  case atStart => exact ⟨0, [], by omega, rfl, by simpa using H0.out, by simpa using World.ownsRow_nil _ _ _ _, by simp, Below.refl _ _⟩
  case round =>
    obtain ⟨k, D, hk, rfl, hL, hown, hD, hbel⟩ := hrel
    have HL : Hid (L = D ++ toksAt s k) := hL
    clear hL
    by_cases hlt : k < s.size
    · have hB := B_at s k hlt
      have HB : Hid (((s[k]'hlt).toNat : Int) = B s k) := hB
      clear hB
      by_cases hbl : B s k = 32 ∨ B s k = 10
      · have HX := hid (toksAt_blank s k hlt hbl)
        have HH := hid hbl
        clear hbl
        go_wp2_with fail
        refine (isRun_any _ _).mono ?_; rintro e w1 ⟨rfl, rfl⟩
        rcases HH.out with h | h
        · have h32 : (((s[k]'hlt).toNat : Int) == 32) = true := by rw [HB.out]; simp [h]
          clear h HH
          go_wp2_with fail
          go_roundg (gk - 1)
          case rel => exact ⟨k + 1, D, by omega, by go_num, by rw [HL.out, HX.out], hown, by omega, hbel⟩
          case measure => omega
        · have h32 : (((s[k]'hlt).toNat : Int) == 32) = false := by rw [HB.out]; simp [h]
          have h10 : (((s[k]'hlt).toNat : Int) == 10) = true := by rw [HB.out]; simp [h]
          clear h HH
          go_wp2_with fail
          go_roundg (gk - 1)
          case rel => exact ⟨k + 1, D, by omega, by go_num, by rw [HL.out, HX.out], hown, by omega, hbel⟩
          case measure => omega
      · by_cases hr : runB (B s k) = true
        · have HX := hid (toksAt_run s k hlt hbl hr)
          have hr' : runB ((s[k]'hlt).toNat : Int) = true := by rw [HB.out]; exact hr
          have h32 : (((s[k]'hlt).toNat : Int) == 32) = false := by rw [HB.out]; simp; intro h; exact hbl (Or.inl h)
          have h10 : (((s[k]'hlt).toNat : Int) == 10) = false := by rw [HB.out]; simp; intro h; exact hbl (Or.inr h)
          have HE := hid (⟨hlt, hr⟩ : k < s.size ∧ runB (B s k) = true)
          clear hbl hr
          go_wp2_with fail
          refine (isRun_any _ _).mono ?_; rintro e w1 ⟨rfl, rfl⟩; rw [hr']
          go_wp2_with fail
          clear hr' h32 h10
          go_loopg [4, 6] (s.size - k) (fun g i r wr => ∃ j b, k ≤ j ∧ j + g = s.size ∧ i = .int .i64 (j : Nat) ∧ r = .bool b ∧ Hid (b = true ↔ (j < s.size ∧ runB (B s j) = true)) ∧ Hid (runEnd s s.size k = runEnd s s.size j) ∧ Hid (b = false → k < j) ∧ wr = w1)
          case atStart => exact ⟨k, true, Nat.le_refl _, by omega, rfl, rfl, hid (by simpa using HE.out), hid rfl, hid (by simp), rfl⟩
          case round =>
            obtain ⟨j, b, hkj, hj, rfl, rfl, HI, HR, HK, rfl⟩ := hrel
            cases b with
            | true =>
              have hjs := HI.out.1 rfl
              have HS := hid (HR.out.trans (runEnd_step s j hjs.1 hjs.2))
              have hj1 : j < s.size := hjs.1
              clear hjs HI HR HK
              by_cases hj2 : j + 1 < s.size
              · have HB2 := hid (B_at s (j + 1) hj2)
                go_wp2_with fail
                refine (isRun_any _ _).mono ?_; rintro e w2 ⟨rfl, rfl⟩; rw [HB2.out]
                generalize hq : runB (B s (j + 1)) = q
                have HQ := hid hq
                clear hq
                go_wp2_with fail
                go_roundg (gk - 1)
                case rel => exact ⟨j + 1, q, by omega, by omega, by go_num, rfl, hid (by rw [HQ.out]; exact ⟨fun h => ⟨hj2, h⟩, fun h => h.2⟩), HS, hid (fun _ => by omega), rfl⟩
                case measure => omega
              · go_wp2_with fail
                go_roundg (gk - 1)
                case rel => exact ⟨j + 1, false, by omega, by omega, by go_num, rfl, hid (by simp; omega), HS, hid (fun _ => by omega), rfl⟩
                case measure => omega
            | false =>
              have HJ := hid (HR.out.trans (runEnd_stop s j (fun h => by simpa using HI.out.2 h)))
              have hkj' : k < j := HK.out rfl
              have hjs : j ≤ s.size := by omega
              have HX2 := hid (by have := HX.out; rw [HJ.out] at this; exact this)
              clear HI HR HK HJ HX HE
              go_wp2_with fail
              refine (isNumber_any _ _).mono ?_; rintro e w2 ⟨rfl, rfl⟩
              generalize hnb : numB (s.extract k j).toList = nb
              go_wp2_with fail
              refine (isName_any _ _).mono ?_; rintro e w3 ⟨rfl, rfl⟩
              generalize hmb : nameB (s.extract k j).toList = mb
              have HT := hid (show (!nb && !mb) = badRun (s.extract k j) by unfold badRun; rw [hnb, hmb])
              clear hnb hmb
              cases nb
              all_goals
                go_wp2_with (at_builtin; refine wpList_append_own _ rfl _ _ 89 rfl w.heap.size 92 i0 _ 3 32 Tryz.underlying89 hi hz0 hz1 hz2 rfl (by decide) _ _ _ rfl (hown.alloc _) ⟨_, 0, none⟩ 1 1 [_, _, _] rfl rfl (cells_three _ _ _ _ _) (by simp [Value.oneCell']) (by unfold maxLen; omega) (by omega) (by have := hbel.size; simp; omega) ?_)
                intro v' w4 hown' hgrow _
                have hbel' := below_append' hbel hown hgrow
                have hown2 := tok_owns (t := ⟨s.extract k j, k, badRun (s.extract k j)⟩) (by rw [tokCells, ← HT.out]; rfl) hown'
                have HL2 := hid (tok_list HL.out HX2.out)
                clear hown' hgrow hown HL
                go_wp2
                go_roundg (s.size - j)
                case rel => exact ⟨j, _, by omega, by go_num, HL2.out, hown2, by simp; omega, hbel'⟩
                case measure => omega
        · have HX := hid (toksAt_mark s k hlt hbl hr)
          have hr' : runB ((s[k]'hlt).toNat : Int) = false := by rw [HB.out]; simpa using hr
          have h32 : (((s[k]'hlt).toNat : Int) == 32) = false := by rw [HB.out]; simp; intro h; exact hbl (Or.inl h)
          have h10 : (((s[k]'hlt).toNat : Int) == 10) = false := by rw [HB.out]; simp; intro h; exact hbl (Or.inr h)
          clear hbl hr
          have b1 : (0 : Int) ≤ (k : Int) + 1 := by omega
          have b2 : (k : Int) + 1 ≤ (s.size : Int) := by omega
          have b3 : (k : Int) ≤ (k : Int) + 1 := by omega
          by_cases h123 : (((s[k]'hlt).toNat : Int) != 123) = true
          · go_wp2_with fail
            refine (isRun_any _ _).mono ?_; rintro e w1 ⟨rfl, rfl⟩; rw [hr']
            go_wp2_with fail
            go_region_law (refine step_append_own rfl (.tmp 20) (.tmp 37) 89 rfl w.heap.size 92 i0 _ 3 32 Tryz.underlying89 hi hz0 hz1 hz2 rfl (by decide) u3 D.length (D.flatMap tokCells) (by simp [Act.eval]) (hown.alloc _) ⟨w1.heap.size, 0, none⟩ 1 1 [.string (s.extract k (k + 1)), .int .i64 k, .bool ((((s[k]'hlt).toNat : Int) != 125))] (by simp [Act.eval]) rfl (cells_three _ _ _ _ _) (by simp [Value.oneCell']) (by unfold maxLen; omega) (by omega) (by have := hbel.size; simp; omega) ?_; intro v' w2 hown' hgrow _)
            have hbel' := below_append hbel hown hgrow
            have hown2 := tok_owns (t := ⟨s.extract k (k + 1), k, !(B s k == 123) && !(B s k == 125)⟩) (by rw [← HB.out, tokCells, mark_bad1 _ h123]) hown'
            have HL2 := hid (tok_list HL.out HX.out)
            clear hown' hgrow hown HL
            go_wp2
            go_roundg (gk - 1)
            case rel => exact ⟨k + 1, _, by omega, by go_num, HL2.out, hown2, by simp; omega, hbel'⟩
            case measure => omega
          · have hx : ((s[k]'hlt).toNat : Int) = 123 := by simpa using h123
            have HZ := hid hx
            clear h123 hr' h32 h10
            have hr' : runB 123 = false := by decide
            go_wp2_with fail
            refine (isRun_any _ _).mono ?_; rintro e w1 ⟨rfl, rfl⟩; rw [hr']
            go_wp2_with fail
            (first | (go_region_law (refine step_append_own rfl (.tmp 20) (.tmp 37) 89 rfl w.heap.size 92 i0 _ 3 32 Tryz.underlying89 hi hz0 hz1 hz2 rfl (by decide) u3 D.length (D.flatMap tokCells) (by simp [Act.eval]) (hown.alloc _) ⟨w1.heap.size, 0, none⟩ 1 1 [.string (s.extract k (k + 1)), .int .i64 k, .bool false] (by simp [Act.eval]) rfl (cells_three _ _ _ _ _) (by simp [Value.oneCell']) (by unfold maxLen; omega) (by omega) (by have := hbel.size; simp; omega) ?_; intro v' w2 hown' hgrow _)) | fail)
            all_goals
              have hbel' := below_append hbel hown hgrow
              have hown2 := tok_owns (t := ⟨s.extract k (k + 1), k, !(B s k == 123) && !(B s k == 125)⟩) (by rw [← HB.out, tokCells, HZ.out, mark_bad0 123 (by decide)]) hown'
              have HL2 := hid (tok_list HL.out HX.out)
              clear hown' hgrow hown HL
              go_wp2
              go_roundg (gk - 1)
              case rel => exact ⟨k + 1, _, by omega, by go_num, HL2.out, hown2, by simp; omega, hbel'⟩
              case measure => omega
    · go_wp2_with fail
      go_ret
      exact ⟨u3, rfl, by rw [HL.out, toksAt_end s k hlt]; simpa using hown, hbel⟩
end Go.Proofs.YtopcgnjocklcoaaGreatDoor
