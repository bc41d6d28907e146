/-
  Contracts of the document's Levels and Root.
-/
import Derived.Test.YtanplccigmihfaaGreatDoorM4
namespace Go.Pal
open Go.RowKit
theorem rowUp_take (l : List ByteArray) (j : Nat) (h : j < l.length / 2) : (rowUp l).take (j + 1) = (rowUp l).take j ++ [pairB (l.getD (2 * j) ByteArray.empty) (l.getD (2 * j + 1) ByteArray.empty)] := by
  have hl : j < (rowUp l).length := by rw [rowUp_length]; exact h
  rw [List.take_succ_eq_append_getElem hl]
  have := rowUp_get l j h
  rw [List.getD_eq_getElem?_getD, List.getElem?_eq_getElem hl] at this
  rw [← this]; rfl
/-- The rows, one behind the other, as slices in a row of their own; none lies in block B. -/
def LevRows (w : World) (B : Option Nat) (l : List ByteArray) (vs : List Value) (k : Nat) : Prop :=
  vs.length = k + 1 ∧ ∀ j, j ≤ k → ∃ b off c, vs[j]? = some (.slice (some ⟨b, off, none⟩) (rowN j l).length c) ∧ StrRow w (some ⟨b, off, none⟩) (rowN j l) ∧ b < w.heap.size ∧ B ≠ some b
theorem strRow_grown {w w' : World} {row : Option Nat} {b off : Nat} {l : List ByteArray} (h : StrRow w (some ⟨b, off, none⟩) l) (hg : w.grownBy w' row) (hb : b < w.heap.size) (hne : row ≠ some b) : StrRow w' (some ⟨b, off, none⟩) l := by
  rcases h with h | ⟨b2, o2, he, hl, hc⟩
  · exact .inl h
  · cases he
    exact .inr ⟨b, off, rfl, Nat.lt_of_lt_of_le hl hg.size, fun i hi => (hg.cell_far ⟨b, off + i, none⟩ hb (Ne.symm hne)).trans (hc i hi)⟩
theorem LevRows.below {w w' : World} {B : Option Nat} {l : List ByteArray} {vs : List Value} {k : Nat} (h : LevRows w B l vs k) (hb : Below w.heap.size w w') : LevRows w' B l vs k :=
  ⟨h.1, fun j hj => by
    obtain ⟨b, off, c, h1, h2, h3, h4⟩ := h.2 j hj
    exact ⟨b, off, c, h1, h2.below hb, Nat.lt_of_lt_of_le h3 hb.size, h4⟩⟩
end Go.Pal
namespace Go.Proofs.YtanplccigmihfaaGreatDoor
open Go.RowKit Go.Pal

theorem slice_one (v : Value) (h : v.oneCell' = true) : ∀ u ∈ [v], u.oneCell' = true := by
  intro u hu
  obtain rfl : u = v := by simpa using hu
  exact h

set_option maxHeartbeats 2000000 in
set_option maxRecDepth 100000 in
theorem levels_any (w : World) (b0 off0 : Nat) (cap : Nat) (ss : List ByteArray) (H : Nat) (hH : H ≤ 4) (hlen : ss.length = 2 ^ H) (hss : StrRow w (some ⟨b0, off0, none⟩) ss) (hb0 : b0 < w.heap.size) (hsm : SmallL ss) :
    Calls Tryz.prog 67 #[.slice (some ⟨b0, off0, none⟩) ss.length cap] w fun e w' => (∃ v vs, e = .returned v ∧ w'.ownsRow w.heap.size 39 1 v (H + 1) vs ∧ LevRows w' v.ownBlock ss vs H) ∧ Below w.heap.size w w' := by
  obtain ⟨i0, hi0, hz0, hz1, hz2⟩ := info_parts (show (Tryz.prog.info? 9).map (fun i => (i.zero, i.size, i.bytes)) = some (some (.string ⟨#[]⟩), 1, 16) by kernel_rfl)
  obtain ⟨i1, hi1, hy0, hy1, hy2⟩ := info_parts (show (Tryz.prog.info? 39).map (fun i => (i.zero, i.size, i.bytes)) = some (some (.slice none 0 0), 1, 24) by kernel_rfl)
  have HN := Lib.hid (fun k hk => rowN_pow ss H k hlen hk)
  have HSM := Lib.hid (smallL_n ss hsm)
  have HSS := Lib.hid hss
  have hp := Nat.two_pow_pos H
  have HR0 : Hid (LevRows (w.alloc (.cells #[.slice (some ⟨b0, off0, none⟩) ss.length cap] 39)) (some w.heap.size) ss [.slice (some ⟨b0, off0, none⟩) ss.length cap] 0) := Lib.hid ⟨rfl, fun j hj => by
    obtain rfl : j = 0 := by omega
    exact ⟨b0, off0, cap, rfl, strRow_alloc hss _, by simp; omega, by simp; omega⟩⟩
  clear hss hsm hlen
  go_enter Tryz.func67, Tryz.ntmps67
  go_wp2
  go_loopw [0, 3] (fun v0 v3 wr => ∃ k : Nat, ∃ vs : List Value, ∃ b off c : Nat, k ≤ H ∧ v0 = .slice (some ⟨b, off, none⟩) (rowN k ss).length c ∧ StrRow wr (some ⟨b, off, none⟩) (rowN k ss) ∧ b < wr.heap.size ∧ wr.ownsRow w.heap.size 39 1 v3 (k + 1) vs ∧ LevRows wr v3.ownBlock ss vs k ∧ Below w.heap.size w wr) (fun v0 _ _ => sliceLen v0)
  case atStart => exact ⟨0, _, b0, off0, cap, by omega, rfl, strRow_alloc HSS.out _, by simp; omega, World.ownsRow_lit (base := w.heap.size) (e := 39) (size := 1) w #[.slice (some ⟨b0, off0, none⟩) ss.length cap] 1 (Nat.le_refl _) (by unfold maxLen; omega) rfl, HR0.out, (Below.refl _ _).alloc (Nat.le_refl _) _⟩
  case round =>
    clear HR0 HSS
    obtain ⟨k, vs, b, off, c, hk, rfl, hrow, hbl, hown, hrows, hb⟩ := hrel
    rename World => wi
    have hlk := HN.out k hk
    by_cases hlt : k < H
    · have h2 := pow_ge2 (H - k) (by omega)
      have h16 := pow_le16 (H - k) (by omega)
      have e2 : 2 ^ (H - k) = 2 * 2 ^ (H - (k + 1)) := by rw [show H - k = (H - (k + 1)) + 1 by omega, Nat.pow_succ]; omega
      have hl2 := rowUp_length (rowN k ss)
      have hnx : rowN (k + 1) ss = rowUp (rowN k ss) := rfl
      have htk := rowUp_take (rowN k ss)
      have hsm := HSM.out k
      generalize rowN k ss = R at *
      generalize hU : rowN (k + 1) ss = U at *
      rw [← hnx] at hl2 htk
      obtain ⟨n, hn⟩ : ∃ n, n = R.length / 2 := ⟨_, rfl⟩
      rw [← hn] at hl2 htk
      have hRn : R.length = 2 * n := by omega
      have hn1 : 0 < n := by omega
      have hn8 : n ≤ 8 := by omega
      have HU := Lib.hid hU
      have HTK := Lib.hid htk
      have HSMR := Lib.hid hsm
      have HROW := Lib.hid hrow
      have HOWN := Lib.hid hown
      have HROWS := Lib.hid hrows
      have HB := Lib.hid hb
      have hR1 : 1 < R.length := by omega
      have HL2 := Lib.hid hl2
      have HRN := Lib.hid hRn
      clear hU htk hsm hrow hown hrows hb hnx hlk h2 h16 e2 hl2 hn hRn
      have HR1 := Lib.hid hR1
      have hd1 : decide (1 < (R.length : Int)) = true := by simp; omega
      clear hR1
      go_wp2
      clear hd1
      go_loopw [4, 5] (fun v4 vi wq => ∃ j : Nat, j ≤ n ∧ vi = .int .i64 ((2 * j : Nat) : Int) ∧ wq.ownsRow wi.heap.size 9 1 v4 j ((U.take j).map strV) ∧ Below wi.heap.size wi wq) (fun _ vi _ => 2 * n - (intOf vi).toNat)
      case atStart => exact ⟨0, by omega, rfl, World.ownsRow_nil _ _ _ _, Below.refl _ _⟩
      case round =>
        obtain ⟨j, hj, rfl, hown4, hbq⟩ := hrel
        have hRn := HRN.out
        by_cases hjl : j < n
        · have htk := HTK.out j hjl
          rcases HROW.out with e0 | ⟨b', o', he, hbl', hc⟩
          · have hR1 := HR1.out; rw [e0] at hR1; simp at hR1
          cases he
          have k1 := hc (2 * j) (by omega)
          have k2 := hc (2 * j + 1) (by omega)
          have z1 := HSMR.out (2 * j)
          have z2 := HSMR.out (2 * j + 1)
          have q1 := (hbq.cell (p := ⟨b, off + 2 * j, none⟩) hbl).trans k1
          have q2 := (hbq.cell (p := ⟨b, off + (2 * j + 1), none⟩) hbl).trans k2
          generalize R.getD (2 * j) ByteArray.empty = X at *
          generalize R.getD (2 * j + 1) ByteArray.empty = Y at *
          have hpb : shaB ⟨(inputL 4 [X, Y]).toArray⟩ = pairB X Y := rfl
          have htot : totL [X, Y] ≤ 9000000 := by simp [totL]; omega
          have HRT := Lib.hid (fun (Wq : World) (hWq : Below wi.heap.size wi Wq) (hO : Wq.ownsRow wi.heap.size 9 1 u4 j ((U.take j).map strV)) aa cc h => (reftag_any Wq 4 aa cc [X, Y] h htot (by simp)).mono (fun e w' (h : e = .returned (.string (shaB ⟨(inputL 4 [X, Y]).toArray⟩)) ∧ Below Wq.heap.size Wq w') => (show e = .returned (.string (shaB ⟨(inputL 4 [X, Y]).toArray⟩)) ∧ Below wi.heap.size wi w' ∧ w'.ownsRow wi.heap.size 9 1 u4 j ((U.take j).map strV) from ⟨h.1, hWq.trans (h.2.mono hWq.size), hO.kept (Lib.grownBy_below (World.grownBy.refl _ none) h.2) (by cases h : Value.ownBlock _ <;> simp)⟩)))
          rw [hpb] at HRT
          generalize pairB X Y = Z at *
          have HO := Lib.hid hown4
          have HBQ := Lib.hid hbq
          have HTJ := Lib.hid htk
          have hj0 : (0 : Int) ≤ 2 * (j : Int) := by omega
          have hj1 : 2 * (j : Int) < (R.length : Int) := by omega
          have hj2 : (0 : Int) ≤ 2 * (j : Int) + 1 := by omega
          have hj3 : 2 * (j : Int) + 1 < (R.length : Int) := by omega
          have i4 : IntKind.i64.wrap (2 * (j : Int) + 1) = 2 * (j : Int) + 1 := by rw [IntKind.wrap_i64]; omega
          have i6 : (2 * (j : Int)).toNat = 2 * j := by omega
          have i7 : (2 * (j : Int) + 1).toNat = 2 * j + 1 := by omega
          have HC1 : Hid (j + 1 ≤ maxLen) := Lib.hid (by unfold maxLen; omega)
          have HC2 : Hid ((j + 1) * 16 ≤ 140737488355328) := Lib.hid (by omega)
          have hdr : Below wi.heap.size wi wr.drew := hbq.drew
          clear hown4 hc htk hpb htot hbq hRn HROW HOWN HROWS HSMR
          go_wp2
          go_region_held3 (fun w' => w'.cell? ⟨b, off + 2 * j, none⟩ = some (.string X) ∧ w'.cell? ⟨b, off + (2 * j + 1), none⟩ = some (.string Y))
            (first | exact ⟨(b7.cell (p := ⟨b, off + 2 * j, none⟩) hbl).trans k1, (b7.cell (p := ⟨b, off + (2 * j + 1), none⟩) hbl).trans k2⟩ | exact ⟨((b7.alloc b7.size _).cell (p := ⟨b, off + 2 * j, none⟩) hbl).trans k1, ((b7.alloc b7.size _).cell (p := ⟨b, off + (2 * j + 1), none⟩) hbl).trans k2⟩ | exact ⟨(b8.cell (p := ⟨b, off + 2 * j, none⟩) hbl).trans k1, (b8.cell (p := ⟨b, off + (2 * j + 1), none⟩) hbl).trans k2⟩ | exact ⟨(((HBQ.out.alloc HBQ.out.size _).drew).cell (p := ⟨b, off + 2 * j, none⟩) hbl).trans k1, (((HBQ.out.alloc HBQ.out.size _).drew).cell (p := ⟨b, off + (2 * j + 1), none⟩) hbl).trans k2⟩ | go_keep)
            (first | (go_at_call 47; refine (HRT.out _ ((HBQ.out.alloc HBQ.out.size _).drew) ((HO.out.alloc _).drew) _ _ (strs2t wr 9 X Y)).mono ?_; rintro e w7 ⟨rfl, b7, o7⟩) | (refine step_append_lies _ (by rfl) _ _ _ (by rfl) wi.heap.size 9 i0 (.string ⟨#[]⟩) 1 16 Tryz.underlying39 hi0 hz0 hz1 hz2 rfl (by omega) _ j _ (by rfl) (o7.alloc _) ⟨w7.heap.size, 0, none⟩ 1 1 [strV Z] (by rfl) (by rfl) (World.news_of_block (cs := #[strV Z]) (t := 9) (fr := (0, 0)) (heap_alloc_new w7 _)) (strV_one Z) (by omega) HC1.out HC2.out (by have := b7.size; simp; omega) (w7.heap.size + 1) (by simp) ?_; intro g8 cap8 w8 hown8 hg8 _ _; have b8 := (b7.alloc b7.size _).grown hg8 (by have := b7.size; simp; omega) (fun q hq => (o7.lt q hq).1)))
          have HO8 := Lib.hid hown8
          have HB8 := Lib.hid b8
          clear hown8 hg8 b8 o7 b7
          go_wp2
          go_roundw
          case rel => exact ⟨j + 1, by omega, by go_num, by rw [HTJ.out, List.map_append]; exact HO8.out, HB8.out⟩
          case measure => simp [intOf]; omega
        · obtain rfl : j = n := by omega
          rw [List.take_of_length_le (by rw [HL2.out]; omega)] at hown4
          obtain ⟨g, cp, rfl, hg1, hg2⟩ := hown4.form (by omega)
          have hv3 := HOWN.out
          have hr4 : StrRow wr (some ⟨g, 0, none⟩) U := .inr ⟨g, 0, rfl, hg2, fun q hq => by rw [Nat.zero_add, hown4.cellAt q (by have := HL2.out; omega), strs_get? U q hq]⟩
          have o3 := HOWN.out.kept (Lib.grownBy_below (World.grownBy.refl wi none) hbq) (by cases h : Value.ownBlock _ <;> simp)
          have rows3 := HROWS.out.below hbq
          have C3 := Lib.hid (HB.out.trans (hbq.mono HB.out.size))
          have hne3 : u3.ownBlock ≠ some g := fun e => by have := (HOWN.out.lt g e).2; omega
          have HO3 := Lib.hid o3
          have HR3 := Lib.hid rows3
          have HR4 := Lib.hid hr4
          have HG2 := Lib.hid hg2
          have HNE := Lib.hid hne3
          have HC1 : Hid (k + 1 + 1 ≤ maxLen) := Lib.hid (by unfold maxLen; omega)
          have HC2 : Hid ((k + 1 + 1) * 24 ≤ 140737488355328) := Lib.hid (by omega)
          have HC3 : Hid (∀ o : Obj, w.heap.size ≤ (wr.alloc o).heap.size) := Lib.hid (fun o => by have := C3.out.size; simp; omega)
          clear o3 rows3 hr4 hown4 hbq hv3 HOWN HROWS HROW hne3 hg1
          have hjl2 : ¬ 2 * j + 1 < R.length := by have := HRN.out; omega
          clear hjl
          go_wp2_with (at_builtin; refine wpList_append_lies _ rfl _ _ 105 rfl w.heap.size 39 i1 (.slice none 0 0) 1 24 Tryz.underlying105 hi1 hy0 hy1 hy2 rfl (by omega) _ (k + 1) _ rfl (HO3.out.alloc _) ⟨wr.heap.size, 0, none⟩ 1 1 [.slice (some ⟨g, 0, none⟩) j cp] rfl rfl (World.news_of_block (cs := #[.slice (some ⟨g, 0, none⟩) j cp]) (t := 39) (fr := (0, 0)) (heap_alloc_new wr _)) (slice_one _ rfl) (by omega) HC1.out HC2.out (HC3.out _) (wr.heap.size + 1) (by simp) ?_)
          intro g9 cap9 w9 hown9 hg9 hat9 hlt9
          have hsz9 := hg9.size
          have hwr : wr.heap.size < w9.heap.size := by simp at hsz9; omega
          have ne9 : ∀ q, u3.ownBlock ≠ some q → q < wr.heap.size → (Value.slice (some ⟨g9, 0, none⟩) (k + 1 + 1) cap9).ownBlock ≠ some q := by
            intro q h1 h2 h3
            have : g9 = q := by simpa [Value.ownBlock] using h3
            rcases hat9 with h | h
            · exact h1 (by rw [h, this])
            · omega
          have hrowsN : LevRows w9 (Value.slice (some ⟨g9, 0, none⟩) (k + 1 + 1) cap9).ownBlock ss (vs ++ [.slice (some ⟨g, 0, none⟩) j cp]) (k + 1) := by
            refine ⟨by rw [List.length_append, HR3.out.1]; rfl, fun q hq => ?_⟩
            by_cases hqk : q ≤ k
            · obtain ⟨bq, oq, cq, h1, h2, h3, h4⟩ := HR3.out.2 q hqk
              refine ⟨bq, oq, cq, ?_, strRow_grown (strRow_alloc h2 _) hg9 (by simp; omega) h4, Nat.lt_trans h3 hwr, ne9 bq h4 h3⟩
              rw [List.getElem?_append_left (by rw [HR3.out.1]; omega), h1]
            · obtain rfl : q = k + 1 := by omega
              refine ⟨g, 0, cp, ?_, ?_, Nat.lt_trans HG2.out hwr, ne9 g HNE.out HG2.out⟩
              · rw [List.getElem?_append_right (by rw [HR3.out.1]; omega), HR3.out.1, Nat.sub_self, HU.out, HL2.out]; rfl
              · rw [HU.out]; exact strRow_grown (strRow_alloc HR4.out _) hg9 (by have := HG2.out; simp; omega) HNE.out
          have C9 := Lib.hid ((C3.out.alloc C3.out.size _).grown hg9 (HC3.out _) (fun q hq => (HO3.out.lt q hq).1))
          have HO9 := Lib.hid hown9
          have HRN9 := Lib.hid hrowsN
          have HR9 := Lib.hid (strRow_grown (strRow_alloc HR4.out (.cells #[.slice (some ⟨g, 0, none⟩) j cp] 39)) hg9 (by have := HG2.out; simp; omega) HNE.out)
          have HG9 : Hid (g < w9.heap.size) := Lib.hid (Nat.lt_trans HG2.out hwr)
          have HUL : Hid (j < R.length) := Lib.hid (by have := HRN.out; omega)
          clear hown9 hg9 hat9 hlt9 hsz9 hwr ne9 hrowsN HO3 HR3 C3 HC1 HC2 HC3 HR4
          go_wp2
          go_roundw
          case rel => exact ⟨k + 1, _, g, 0, cp, by omega, by rw [HU.out, HL2.out], by rw [HU.out]; exact HR9.out, HG9.out, HO9.out, HRN9.out, C9.out⟩
          case measure => simp only [sliceLen]; exact HUL.out
    · obtain rfl : k = H := by omega
      rw [Nat.sub_self] at hlk
      have hl1 : (rowN k ss).length = 1 := hlk
      rw [hl1]
      have HB := Lib.hid hb
      have HO := Lib.hid hown
      have HR := Lib.hid hrows
      clear hb hl1 hlk hown hrow hrows
      go_wp2
      go_ret
      exact ⟨⟨_, _, rfl, HO.out, HR.out⟩, HB.out⟩

end Go.Proofs.YtanplccigmihfaaGreatDoor
