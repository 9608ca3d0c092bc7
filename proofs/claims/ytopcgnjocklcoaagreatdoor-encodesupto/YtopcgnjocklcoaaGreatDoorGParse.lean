/- The items of a schema, by package schemas' descent; how they lie in memory (no walk). -/
import Derived.Test.YtopcgnjocklcoaaGreatDoorGBlock
namespace Go.Proofs.YtopcgnjocklcoaaGreatDoor
open Go.RowKit

theorem fieldT_ge {s : ByteArray} {t : PTok} : t.at_ ≤ (fieldT s t).2.at_ := by
  unfold fieldT
  have a1 := next_at s t
  have a2 := next_at s (nextP s t)
  have a3 := after_at s (nextP s (nextP s t)) (shapeOk (nextP s (nextP s t)))
  have a4 := next_at s (afterT (shapeOk (nextP s (nextP s t))) s (nextP s (nextP s t)))
  split
  · split
    · split <;> (simp only; omega)
    · simp only; omega
  · exact Nat.le_refl _
theorem fieldsT_tk {s : ByteArray} : ∀ (f : Nat) (t : PTok) (L : List PField), Tk s t → Tk s (fieldsT s f t L).2.1 ∧ t.at_ ≤ (fieldsT s f t L).2.1.at_
  | 0, t, L, h => ⟨h, Nat.le_refl _⟩
  | f + 1, t, L, h => by
    have h1 := fieldT_tk h
    have h2 := @fieldT_ge s t
    unfold fieldsT
    split
    · split
      · have := next_at s (fieldT s t).2
        exact ⟨h1.next, by simp only; omega⟩
      · have := fieldsT_tk f (fieldT s t).2 (L ++ [fieldV s t (numI t.text.toList)]) h1
        exact ⟨this.1, by omega⟩
    · exact ⟨h1, h2⟩
theorem blockF_tk {s : ByteArray} {t : PTok} (h : Tk s t) : Tk s (blockF s t).2.1 ∧ t.at_ ≤ (blockF s t).2.1.at_ := by
  unfold blockF
  split
  · have := fieldsT_tk (s.size + 1) (nextP s t) [] h.next
    have a := next_at s t
    exact ⟨this.1, by omega⟩
  · exact ⟨h, Nat.le_refl _⟩
theorem namesT_tk {s : ByteArray} : ∀ (f : Nat) (t : PTok) (L : List PTok), Tk s t → Tk s (namesT s f t L).2.1 ∧ t.at_ ≤ (namesT s f t L).2.1.at_
  | 0, t, L, h => ⟨h, Nat.le_refl _⟩
  | f + 1, t, L, h => by
    have h2 := next_at s t
    unfold namesT
    split
    · split
      · have := next_at s (nextP s t)
        exact ⟨h.next.next, by simp only; omega⟩
      · have := namesT_tk f (nextP s t) (L ++ [t]) h.next
        exact ⟨this.1, by omega⟩
    · exact ⟨h, Nat.le_refl _⟩
theorem blockN_tk {s : ByteArray} {t : PTok} (h : Tk s t) : Tk s (blockN s t).2.1 ∧ t.at_ ≤ (blockN s t).2.1.at_ := by
  unfold blockN
  split
  · have := namesT_tk (s.size + 1) (nextP s t) [] h.next
    have a := next_at s t
    exact ⟨this.1, by omega⟩
  · exact ⟨h, Nat.le_refl _⟩
theorem word_pos {s : ByteArray} {t : PTok} {l : List UInt8} (h : Tk s t) (hw : isWordT t l = true) : t.at_ < (nextP s t).at_ := by
  simp only [isWordT, Bool.and_eq_true] at hw
  have hk : t.kind = 2 := eq_of_beq hw.2
  have := h.pos (by omega)
  have := next_at s t
  omega
theorem itemT_tk {s : ByteArray} {t : PTok} (h : Tk s t) : Tk s (itemT s t).2.1 ∧ ((itemT s t).1 = true → t.at_ < (itemT s t).2.1.at_) := by
  have n2 := next_at s (nextP s t)
  have n3 := next_at s (nextP s (nextP s t))
  have bf := blockF_tk h.next.next
  have bn := blockN_tk h.next.next
  unfold itemT
  split
  · rename_i hw
    have := word_pos h hw
    split
    · exact ⟨bf.1, fun _ => by simp only; omega⟩
    · exact ⟨h.next, fun hh => by simp at hh⟩
  · split
    · rename_i hw
      have := word_pos h hw
      split
      · exact ⟨bn.1, fun _ => by simp only; omega⟩
      · exact ⟨h.next, fun hh => by simp at hh⟩
    · split
      · rename_i hw
        have := word_pos h hw
        split
        · have a := after_at s (nextP s (nextP s t)) (baseOk (nextP s (nextP s t)))
          exact ⟨h.next.next.after _, fun _ => by simp only; omega⟩
        · exact ⟨h.next, fun hh => by simp at hh⟩
      · split
        · rename_i hw
          have := word_pos h hw
          split
          · split
            · have a := after_at s (nextP s (nextP s (nextP s t))) (baseOk (nextP s (nextP s (nextP s t))))
              exact ⟨h.next.next.next.after _, fun _ => by simp only; omega⟩
            · exact ⟨h.next.next, fun hh => by simp at hh⟩
          · exact ⟨h.next, fun hh => by simp at hh⟩
        · exact ⟨h, fun hh => by simp at hh⟩

def itemsT (s : ByteArray) : Nat → PTok → List PItem → Option (List PItem) × PTok
  | 0, t, _ => (none, t)
  | f + 1, t, L =>
    if (t.kind == 0) = true then (some L, t)
    else if (itemT s t).1 = true then itemsT s f (itemT s t).2.1 (L ++ [(itemT s t).2.2])
    else (none, (itemT s t).2.1)
def parseP (s : ByteArray) : Option (List PItem) × PTok := itemsT s (s.size + 1) (scanP s 0) []

structure PIts (w : World) (lo : Nat) (lv : Value) (X : List PIV) : Prop where
  own : w.ownsRow lo 148 9 lv X.length (X.flatMap pivCells)
  nest : ∀ x ∈ X, PNest w lo x
theorem PNest.keep {w w' : World} {lo : Nat} {x : PIV} (h : PNest w lo x) (hs : ∀ e size n v xs, w.ownsRow lo e size v n xs → (e = 193 ∨ e = 144) → w'.ownsRow lo e size v n xs) : PNest w' lo x :=
  ⟨hs _ _ _ _ _ h.f (Or.inl rfl), hs _ _ _ _ _ h.n (Or.inr rfl)⟩
/-- behind a reader that wrote into a box of its own -/
theorem PIts.wrote {w w' : World} {lo pb ib no n : Nat} {lv : Value} {X : List PIV} (h : PIts w lo lv X) (hw : Wrote w w' pb ib no n) (hp : pb < lo) (hi : w.heap.size ≤ ib ∨ ib < lo) : PIts w' lo lv X := by
  have k : ∀ {e : TypeId} {size n : Nat} {v : Value} {xs : List Value}, w.ownsRow lo e size v n xs → w'.ownsRow lo e size v n xs := fun ho => own_same ho (fun g hg => by
    have := ho.lt g hg
    exact hw.block g this.2 (by omega) (by omega))
  exact ⟨k h.own, fun x hx => ⟨k (h.nest x hx).f, k (h.nest x hx).n⟩⟩
theorem PIts.below {w w' : World} {lo : Nat} {lv : Value} {X : List PIV} (h : PIts w lo lv X) (hb : Below w.heap.size w w') : PIts w' lo lv X := by
  have k : ∀ {e : TypeId} {size n : Nat} {v : Value} {xs : List Value}, w.ownsRow lo e size v n xs → w'.ownsRow lo e size v n xs := fun ho => own_same ho (fun g hg => hb.block g (ho.lt g hg).2)
  exact ⟨k h.own, fun x hx => ⟨k (h.nest x hx).f, k (h.nest x hx).n⟩⟩
theorem PIts.push {w4 w5 : World} {lo : Nat} {lv lv' : Value} {X : List PIV} {x : PIV} {ob : Obj} (h : PIts w4 lo lv X) (hx : PNest w4 lo x)
    (ho : w5.ownsRow lo 148 9 lv' (X.length + 1) (X.flatMap pivCells ++ pivCells x)) (hg : (w4.alloc ob).grownBy w5 lv.ownBlock) : PIts w5 lo lv' (X ++ [x]) := by
  have k : ∀ {e : TypeId} {size n : Nat} {v : Value} {xs : List Value}, e ≠ 148 → w4.ownsRow lo e size v n xs → w5.ownsRow lo e size v n xs := fun he ho' => own_same ho' (fun g hg' => by
    have hlt := (ho'.lt g hg').2
    have hne : some g ≠ lv.ownBlock := fun hh => own_ne ho' h.own he hg' hh.symm rfl
    rw [hg.block g (by simp; omega) hne]
    exact Below.heap_alloc w4 ob g hlt)
  refine ⟨by simpa using ho, fun y hy => ?_⟩
  rcases List.mem_append.1 hy with hy | hy
  · exact ⟨k (by decide) (h.nest y hy).f, k (by decide) (h.nest y hy).n⟩
  · simp at hy; subst hy; exact ⟨k (by decide) hx.f, k (by decide) hx.n⟩
theorem PNest.down {w : World} {lo lo' : Nat} {x : PIV} (h : PNest w lo x) (hl : lo' ≤ lo) : PNest w lo' x := ⟨own_base h.f hl, own_base h.n hl⟩
end Go.Proofs.YtopcgnjocklcoaaGreatDoor
/- parse of package schemas: the walk. -/
namespace Go.Proofs.YtopcgnjocklcoaaGreatDoor
open Go.RowKit

theorem Tryz.infoPItem : (Tryz.prog.info? 148).map (fun i => (i.zero, i.size, i.bytes)) = some (some (.agg #[.int .i64 0, .string ⟨#[]⟩, .int .i64 0, .slice none 0 0, .slice none 0 0, .string ⟨#[]⟩, .int .i64 0, .string ⟨#[]⟩, .int .i64 0]), 9, 128) := by kernel_rfl
def IsNm (l : List Value) : Prop := ∃ (b : ByteArray) (a : Nat), l = [.string b, .int .i64 a]
theorem isNm_zero : IsNm zeroName := ⟨⟨#[]⟩, 0, rfl⟩
theorem isNm_tok (t : PTok) : IsNm (nameCells t) := ⟨t.text, t.at_, rfl⟩
theorem itemT_nm (s : ByteArray) (t : PTok) : IsNm (itemT s t).2.2.base ∧ IsNm (itemT s t).2.2.answer := by
  unfold itemT
  split
  · split <;> exact ⟨isNm_zero, isNm_zero⟩
  · split
    · split <;> exact ⟨isNm_zero, isNm_zero⟩
    · split
      · split
        · exact ⟨isNm_tok _, isNm_zero⟩
        · exact ⟨isNm_zero, isNm_zero⟩
      · split
        · split
          · split
            · exact ⟨isNm_tok _, isNm_tok _⟩
            · exact ⟨isNm_zero, isNm_zero⟩
          · exact ⟨isNm_zero, isNm_zero⟩
        · exact ⟨isNm_zero, isNm_zero⟩

theorem PIts.read {wr w2 w3 : World} {lo pb ib no n : Nat} {lv : Value} {X : List PIV} (h : PIts wr lo lv X) (hb : Below wr.heap.size wr w2) (hw : Wrote w2 w3 pb ib no n) (hp : pb < lo) (hi : ib = wr.heap.size) : PIts w3 lo lv X := by
  have k : ∀ {e : TypeId} {size n : Nat} {v : Value} {xs : List Value}, wr.ownsRow lo e size v n xs → w3.ownsRow lo e size v n xs := fun ho => own_same ho (fun g hg => by
    have hl := ho.lt g hg
    exact (hw.block g (Nat.lt_of_lt_of_le hl.2 hb.size) (by omega) (by omega)).trans (hb.block g hl.2))
  exact ⟨k h.own, fun x hx => ⟨k (h.nest x hx).f, k (h.nest x hx).n⟩⟩
theorem Wrote.toBelow {w w' : World} {pb nb no n B : Nat} (h : Wrote w w' pb nb no n) (h1 : B ≤ pb) (h2 : B ≤ nb) (h3 : B ≤ w.heap.size) : Below B w w' :=
  ⟨h.os, h.tape, h.output, h.size, fun k hk => h.block k (by omega) (by omega) (by omega)⟩
theorem piv_len {x : PIV} (h : IsNm x.it.base ∧ IsNm x.it.answer) : (pivCells x).length = 9 := by
  obtain ⟨⟨b, a, hb⟩, ⟨c, d, hc⟩⟩ := h
  simp [pivCells, hb, hc, nameCells]

set_option maxRecDepth 100000 in
set_option maxHeartbeats 4000000 in
theorem parse_any (s : ByteArray) (w : World) (hv : Vars w) (hs : s.size ≤ 400) :
    Calls Tryz.prog 41 #[.string s] w fun e w' => ∃ lv, ∃ P : Int, e = .returned (.tuple #[lv, .int .i64 P]) ∧ Below w.heap.size w w' ∧
      (((parseP s).1 = none ∧ lv = .slice none 0 0 ∧ P = ((parseP s).2.at_ : Int)) ∨ ∃ X : List PIV, (parseP s).1 = some (X.map (fun x => x.it)) ∧ P = -1 ∧ PIts w' (w.heap.size + 1) lv X ∧ X.length ≤ 400) := by
  obtain ⟨iT, hiT, hT0, hT1, hT2⟩ := info_parts Tryz.infoPItem
  have hv1 := hv.lt1
  have hv2 := hv.lt2
  have HV := hid hv
  generalize hR : parseP s = R
  have HR := hid hR
  clear hR hv
  go_enter Tryz.func41, Tryz.ntmps41
  go_wp2_with fail
  have hb0 : Below w.heap.size w (w.alloc (.cells #[.string s, .int .i64 0, .string ⟨#[]⟩, .int .i64 0] 141)) := (Below.refl _ _).alloc (Nat.le_refl _) _
  have hps : Ps (w.alloc (.cells #[.string s, .int .i64 0, .string ⟨#[]⟩, .int .i64 0] 141)) w.heap.size s ⟨0, ⟨#[]⟩, 0⟩ :=
    ⟨⟨_, heap_alloc_new w _, by simp [psCells], by simp [psCells]⟩, HV.out.below hb0, by omega, by omega, by show 0 + 0 ≤ s.size; omega, hs⟩
  refine (step_any _ w.heap.size s ⟨0, ⟨#[]⟩, 0⟩ hps).mono ?_; rintro e w1 ⟨rfl, hp1, hb1⟩
  have hp1' : Ps w1 w.heap.size s (scanP s 0) := hp1
  have hbel1 : Below w.heap.size w w1 := hb0.trans ⟨hb1.os, hb1.tape, hb1.output, hb1.size, fun k hk => hb1.block k (by simp; omega) (by omega)⟩
  have hz1 : w.heap.size < w1.heap.size := Nat.lt_of_lt_of_le (by simp) hb1.size
  have HP1 := hid hp1'
  clear hp1 hp1' hps hb0 hb1
  go_wp2_with fail
  go_loopg [5, 6] (s.size + 1) (fun gk l it wr => ∃ t X, s.size < t.at_ + gk ∧ X.length ≤ t.at_ ∧ Hid (itemsT s gk t (X.map (fun x => x.it)) = R) ∧ Hid (Ps wr w.heap.size s t) ∧ Hid (Tk s t) ∧ Hid (PIts wr (w.heap.size + 1) l X) ∧ Below w.heap.size w wr ∧ w.heap.size < wr.heap.size)
  case atStart => exact ⟨scanP s 0, [], by omega, by simp, hid HR.out, HP1, hid ⟨0, by omega, rfl⟩, hid ⟨World.ownsRow_nil _ _ _ _, fun x hx => (by simp at hx)⟩, hbel1, hz1⟩
  case round =>
    obtain ⟨t, X, hgk, hXl, HF, HP, HTK, HIT, hbel, hz⟩ := hrel
    have hfit := HTK.out.fit
    obtain ⟨gk', rfl⟩ : ∃ gk', gk = gk' + 1 := ⟨gk - 1, by omega⟩
    have c1 := HP.out.seg.cell (j := 1) (v := .int .i64 t.kind) rfl
    simp only [Nat.zero_add] at c1
    by_cases hk : t.kind = 0
    · have HE := hid (show R = (some (X.map (fun x => x.it)), t) by rw [← HF.out]; simp [itemsT, hk])
      have hne : ((t.kind : Int) != 0) = false := by simp; omega
      go_wp2_with fail
      go_ret2
      exact ⟨u5, -1, rfl, hbel, Or.inr ⟨X, by rw [HE.out], rfl, HIT.out, by omega⟩⟩
    · have hne : ((t.kind : Int) != 0) = true := by simp; omega
      obtain ⟨la, lc, hlv⟩ : ∃ a c, u5 = .slice a X.length c := own_slice HIT.out.own
      subst hlv
      go_wp2_with fail
      have hbox : Seg (wr.alloc (.cells #[.int .i64 0, .string ⟨#[]⟩, .int .i64 0, .slice none 0 0, .slice none 0 0, .string ⟨#[]⟩, .int .i64 0, .string ⟨#[]⟩, .int .i64 0] 148)) wr.heap.size 148 0 zeroItem := ⟨_, heap_alloc_new wr _, by simp [zeroItem], by simp [zeroItem]⟩
      have hb2 : Below wr.heap.size wr (wr.alloc (.cells #[.int .i64 0, .string ⟨#[]⟩, .int .i64 0, .slice none 0 0, .slice none 0 0, .string ⟨#[]⟩, .int .i64 0, .string ⟨#[]⟩, .int .i64 0] 148)) := (Below.refl _ _).alloc (Nat.le_refl _) _
      refine (item_any _ w.heap.size s t wr.heap.size (HP.out.below hb2) HTK.out hbox (by omega) (by omega) (by omega)).mono ?_; rintro e w3 ⟨rfl, hp3, hw3, hx3⟩
      have hz3 : wr.heap.size < w3.heap.size := Nat.lt_of_lt_of_le (by simp) hw3.size
      have hit3 := HIT.out.read hb2 hw3 (show w.heap.size < w.heap.size + 1 by omega) rfl
      have hbel3 : Below w.heap.size w w3 := (hbel.trans (hb2.mono (by omega))).trans (hw3.toBelow (Nat.le_refl _) (by omega) (by simp; omega))
      have c3 := hp3.seg.cell (j := 3) (v := .int .i64 (itemT s t).2.1.at_) rfl
      simp only [Nat.zero_add] at c3
      have HP3 := hid hp3
      have HI3 := hid hit3
      have HX3 := hid hx3
      have HTI := hid (itemT_tk HTK.out)
      clear hp3 hit3 hx3 hw3 hbox c1
      cases hok : (itemT s t).1
      case' false =>
        have HE := hid (show R = (none, (itemT s t).2.1) by rw [← HF.out]; simp [itemsT, hk, hok])
        go_wp2_with fail
        go_quiet (fail)
        go_wp2_with fail
        go_ret2
        exact ⟨.slice none 0 0, _, rfl, below_drewN hbel3 _, Or.inl ⟨by rw [HE.out], rfl, by rw [HE.out]⟩⟩
      case' true =>
        obtain ⟨x, hxi, hxs, hxn⟩ := HX3.out hok
        have hnm := itemT_nm s t
        rw [← hxi] at hnm
        have hat := HTI.out.2 hok
        have HE := hid (show itemsT s gk' (itemT s t).2.1 ((X ++ [x]).map (fun x => x.it)) = R by rw [← HF.out]; simp [itemsT, hk, hok, hxi])
        obtain ⟨fa, fc, hvf⟩ : ∃ a c, x.vf = .slice a x.it.fields.length c := own_slice hxn.f
        obtain ⟨na, nc, hvn⟩ : ∃ a c, x.vn = .slice a x.it.names.length c := own_slice hxn.n
        have hlen := piv_len hnm
        obtain ⟨⟨bb, ba, hbb⟩, ⟨ab, aa, hab⟩⟩ := hnm
        have hcells : pivCells x = [.int .i64 x.it.kind, .string x.it.name.text, .int .i64 x.it.name.at_, .slice fa x.it.fields.length fc, .slice na x.it.names.length nc, .string bb, .int .i64 ba, .string ab, .int .i64 aa] := by
          simp [pivCells, hbb, hab, hvf, hvn, nameCells]
        have hxs' := hxs
        rw [hcells] at hxs'
        have e0 := hxs'.cell (j := 0) rfl
        have e1 := hxs'.cell (j := 1) rfl
        have e2 := hxs'.cell (j := 2) rfl
        have e3 := hxs'.cell (j := 3) rfl
        have e4 := hxs'.cell (j := 4) rfl
        have e5 := hxs'.cell (j := 5) rfl
        have e6 := hxs'.cell (j := 6) rfl
        have e7 := hxs'.cell (j := 7) rfl
        have e8 := hxs'.cell (j := 8) rfl
        simp only [Nat.zero_add] at e0 e1 e2 e3 e4 e5 e6 e7 e8
        have HXN := hid (hxn.down (show w.heap.size + 1 ≤ _ by simp; omega))
        have HC := hid hcells
        have HLN := hid hlen
        have HT3 := hid HTI.out.1
        clear hxi hxs hxs' hxn hvf hvn hbb hab hcells hlen HX3 HTI HF c3
        go_wp2_with (at_builtin; refine wpList_append_lies _ rfl _ _ 56 rfl (w.heap.size + 1) 148 iT _ 9 128 Tryz.underlying56 hiT hT0 hT1 hT2 rfl (by decide) _ _ _ rfl (HI3.out.own.alloc _) ⟨w3.heap.size, 0, none⟩ 1 1 (pivCells x) rfl HLN.out (by rw [HC.out]; exact cells_new_at w3 _ rfl #[.int .i64 x.it.kind, .string x.it.name.text, .int .i64 x.it.name.at_, .slice fa x.it.fields.length fc, .slice na x.it.names.length nc, .string bb, .int .i64 ba, .string ab, .int .i64 aa] _) (by rw [HC.out]; simp [Value.oneCell']) (by omega) (by unfold maxLen; omega) (by omega) (by simp; omega) _ rfl ?_)
        intro g5 cp5 w5 hown5 hgrow5 _ _
        have hb5 : Below (w.heap.size + 1) w3 w5 := ((Below.refl _ w3).alloc (by omega) _).grown hgrow5 (by simp; omega) (fun k hk => (HI3.out.own.lt k hk).1)
        have HI5 := hid (HI3.out.push HXN.out hown5 hgrow5)
        have HP5 := hid (HP3.out.belowAt hb5 (by omega) (by omega) (by omega))
        have hbel5 := hbel3.trans (hb5.mono (Nat.le_succ _))
        have hz5 := hb5.size
        clear hown5 hgrow5 hb5 e0 e1 e2 e3 e4 e5 e6 e7 e8
        go_wp2_with fail
        go_roundg gk'
        case rel => exact ⟨(itemT s t).2.1, X ++ [x], by omega, by simp; omega, HE, HP5, HT3, HI5, hbel5, by omega⟩
        case measure => omega
end Go.Proofs.YtopcgnjocklcoaaGreatDoor
