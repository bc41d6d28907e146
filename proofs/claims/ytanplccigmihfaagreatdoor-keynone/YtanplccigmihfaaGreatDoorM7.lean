/-
  Contracts of the document's Root and Path, and of the law's own same.
-/
import Derived.Test.YtanplccigmihfaaGreatDoorM6
namespace Go.Pal
open Go.RowKit
theorem own_strs {w : World} {base : Nat} {t : TypeId} {v : Value} {n : Nat} {l : List ByteArray} (h : w.ownsRow base t 1 v n (l.map strV)) (hn : l.length = n) : ∃ a cap, v = .slice a l.length cap ∧ StrRow w a l := by
  subst hn
  rcases h.2 with ⟨rfl, h0⟩ | ⟨g, cap, cur, rfl, hb, hg, _⟩
  · exact ⟨none, 0, by rw [h0], .inl (List.eq_nil_of_length_eq_zero h0)⟩
  · refine ⟨some ⟨g, 0, none⟩, cap, rfl, .inr ⟨g, 0, rfl, (h.lt g rfl).2, fun i hi => ?_⟩⟩
    rw [Nat.zero_add, h.cellAt i (by omega), strs_get? l i hi]
theorem small_of_long (ps : List ByteArray) (h4 : ps.length ≤ 20) (h : ∀ i, i < 20 → (ps.getD i ByteArray.empty).size ≤ 300) : SmallL ps := by
  intro i
  by_cases hi : i < 20
  · have := h i hi; omega
  · rw [List.getD_eq_getElem?_getD, List.getElem?_eq_none (by omega)]
    show ByteArray.empty.size ≤ _; decide
theorem strRow_some {w : World} {a : Option Addr} {l : List ByteArray} (h : StrRow w a l) (h0 : 0 < l.length) : ∃ b off, a = some ⟨b, off, none⟩ ∧ b < w.heap.size := by
  rcases h with h | ⟨b, off, rfl, hbl, _⟩
  · rw [h] at h0; simp at h0
  · exact ⟨b, off, rfl, hbl⟩
theorem strRow_cell {w : World} {b off : Nat} {l : List ByteArray} (h : StrRow w (some ⟨b, off, none⟩) l) (i : Nat) (hi : i < l.length) : w.cell? ⟨b, off + i, none⟩ = some (.string (l.getD i ByteArray.empty)) := by
  rcases h with h | ⟨b2, o2, he, _, hc⟩
  · rw [h] at hi; simp at hi
  · cases he; exact hc i hi
end Go.Pal
namespace Go.Proofs.YtanplccigmihfaaGreatDoor
open Go.RowKit Go.Pal

set_option maxHeartbeats 1000000 in
set_option maxRecDepth 100000 in
theorem refroot_any (w : World) (b0 off0 : Nat) (cap : Nat) (ss : List ByteArray) (H : Nat) (hH : H ≤ 4) (hlen : ss.length = 2 ^ H) (hss : StrRow w (some ⟨b0, off0, none⟩) ss) (hb0 : b0 < w.heap.size) (hsm : SmallL ss) :
    Calls Tryz.prog 33 #[.slice (some ⟨b0, off0, none⟩) ss.length cap] w fun e w' => e = .returned (.string ((rowN H ss).getD 0 ByteArray.empty)) ∧ Below w.heap.size w w' := by
  have HL := Lib.hid (levels_any w b0 off0 cap ss H hH hlen hss hb0 hsm)
  have hl1 : (rowN H ss).length = 1 := by rw [rowN_pow ss H H hlen (Nat.le_refl _), Nat.sub_self]
  have HL1 := Lib.hid hl1
  clear hss hlen hsm hl1
  go_enter Tryz.func33, Tryz.ntmps33
  go_wp2_with fail
  refine HL.out.mono ?_
  rintro e w1 ⟨⟨v, vs, rfl, hown, hrows⟩, b1⟩
  obtain ⟨g, cp, rfl, _, _⟩ := hown.form (by omega)
  obtain ⟨b, off, c, h1, h2, _, _⟩ := hrows.2 H (Nat.le_refl _)
  rw [HL1.out] at h1
  have c0 := (hown.cellAt H (by omega)).trans h1
  have c1 := strRow_cell h2 0 (by rw [HL1.out]; omega)
  rw [Nat.add_zero] at c1
  generalize hX : (rowN H ss).getD 0 ByteArray.empty = X at *
  have HX := Lib.hid hX
  have HB := Lib.hid b1
  clear hX b1 hown hrows h1 h2
  go_wp2
  go_ret
  rw [HX.out]
  exact ⟨rfl, HB.out⟩

set_option maxHeartbeats 1000000 in
set_option maxRecDepth 100000 in
theorem refpath_any (w : World) (b0 off0 : Nat) (cap : Nat) (ss : List ByteArray) (H i : Nat) (hH : H ≤ 4) (hlen : ss.length = 2 ^ H) (hi : i < 2 ^ H) (hss : StrRow w (some ⟨b0, off0, none⟩) ss) (hb0 : b0 < w.heap.size) (hsm : SmallL ss) :
    Calls Tryz.prog 48 #[.slice (some ⟨b0, off0, none⟩) ss.length cap, .int .i64 i] w fun e w' => (∃ a c, e = .returned (.slice a H c) ∧ StrRow w' a (pathTo ss i H)) ∧ Below w.heap.size w w' := by
  obtain ⟨i0, hi0, hz0, hz1, hz2⟩ := info_parts (show (Tryz.prog.info? 9).map (fun i => (i.zero, i.size, i.bytes)) = some (some (.string ⟨#[]⟩), 1, 16) by kernel_rfl)
  have HL := Lib.hid (levels_any w b0 off0 cap ss H hH hlen hss hb0 hsm)
  have HN := Lib.hid (fun k hk => rowN_pow ss H k hlen hk)
  have HDIV := Lib.hid (fun k hk => div_lt_pow i H k hi hk)
  have h16 := pow_le16 H hH
  have hi16 : i < 16 := by omega
  clear hss hlen hsm hi h16
  go_enter Tryz.func48, Tryz.ntmps48
  go_wp2_with fail
  refine HL.out.mono ?_
  rintro e w1 ⟨⟨v, vs, rfl, hown, hrows⟩, b1⟩
  obtain ⟨g, cp, rfl, _, _⟩ := hown.form (by omega)
  have HO := Lib.hid hown
  have HR := Lib.hid hrows
  have HB := Lib.hid b1
  clear hown hrows b1
  go_wp2
  go_loopw [1, 6, 7] (fun vi v6 vk wr => ∃ k q : Nat, k ≤ H ∧ vi = .int .i64 q ∧ q = i / 2 ^ k ∧ q ≤ i ∧ vk = .int .i64 k ∧ wr.ownsRow w1.heap.size 9 1 v6 k ((pathTo ss i k).map strV) ∧ Below w1.heap.size w1 wr) (fun _ _ vk _ => H - (intOf vk).toNat)
  case atStart => exact ⟨0, i, by omega, rfl, by simp, by omega, rfl, World.ownsRow_nil _ _ _ _, Below.refl _ _⟩
  case round =>
    obtain ⟨k, q, hk, rfl, hq, hqi, rfl, hown6, hb6⟩ := hrel
    by_cases hlt : k < H
    · have hlk := HN.out k hk
      have hdv := HDIV.out k hk
      rw [← hq] at hdv
      have e2 : 2 ^ (H - k) = 2 * 2 ^ (H - (k + 1)) := by rw [show H - k = (H - (k + 1)) + 1 by omega, Nat.pow_succ]; omega
      have hbs := beside_lt q (2 ^ (H - (k + 1))) (by omega)
      have hpt := pathTo_succ ss i k
      rw [← hq] at hpt
      have hqh : q / 2 = i / 2 ^ (k + 1) := by rw [half_step, ← hq]
      obtain ⟨b, off, c, h1, h2, h3, h4⟩ := HR.out.2 k hk
      have c0 := (hb6.cell (p := ⟨g, k, none⟩) (HO.out.lt g rfl).2).trans ((HO.out.cellAt k (by omega)).trans h1)
      have hbl2 : beside q < (rowN k ss).length := by omega
      have c1 := (hb6.cell (p := ⟨b, off + beside q, none⟩) h3).trans (strRow_cell h2 (beside q) hbl2)
      generalize rowN k ss = R at *
      generalize hX : R.getD (beside q) ByteArray.empty = X at *
      generalize hP : pathTo ss i k = Pk at *
      generalize hP2 : pathTo ss i (k + 1) = Pk2 at *
      have HPT := Lib.hid hpt
      have HP2 := Lib.hid hP2
      have HQ := Lib.hid hqh
      have HO6 := Lib.hid hown6
      have HB6 := Lib.hid hb6
      have HC1 : Hid (k + 1 ≤ maxLen) := Lib.hid (by unfold maxLen; omega)
      have HC2 : Hid ((k + 1) * 16 ≤ 140737488355328) := Lib.hid (by omega)
      have HC3 : Hid (∀ o : Obj, w1.heap.size ≤ (wr.alloc o).heap.size) := Lib.hid (fun o => by have := HB6.out.size; simp; omega)
      have hR16 : R.length ≤ 16 := by have := pow_le16 (H - k) (by omega); omega
      have hq16 : q < 16 := by omega
      clear hpt hP2 hqh hown6 hb6 h1 h2 h3 h4 hdv e2 hbs hX hP hq
      by_cases hpar : q % 2 = 0
      · have hbe : beside q = q + 1 := by unfold beside; rw [if_pos hpar]
        rw [hbe] at c1 hbl2
        have hp : ((q : Int) % 2 == 0) = true := by simp; omega
        clear hbe hpar
        go_wp2_with (at_builtin; refine wpList_append_lies _ rfl _ _ 39 rfl w1.heap.size 9 i0 (.string ⟨#[]⟩) 1 16 Tryz.underlying39 hi0 hz0 hz1 hz2 rfl (by omega) _ k _ rfl (HO6.out.alloc _) ⟨wr.heap.size, 0, none⟩ 1 1 [strV X] rfl rfl (World.news_of_block (cs := #[strV X]) (t := 9) (fr := (0, 0)) (heap_alloc_new wr _)) (strV_one X) (by omega) HC1.out HC2.out (HC3.out _) (wr.heap.size + 1) (by simp) ?_)
        intro g9 cap9 w9 hown9 hg9 _ _
        have B9 := Lib.hid ((HB6.out.alloc HB6.out.size _).grown hg9 (HC3.out _) (fun j hj => (HO6.out.lt j hj).1))
        have HO9 := Lib.hid hown9
        clear hown9 hg9 c0 c1
        go_wp2
        go_roundw
        case rel => exact ⟨k + 1, q / 2, by omega, by go_num, HQ.out, by omega, by go_num, by rw [HP2.out, HPT.out, List.map_append]; exact HO9.out, B9.out⟩
        case measure => simp [intOf]; omega
      · have hbe : beside q = q - 1 := by unfold beside; rw [if_neg hpar]
        rw [hbe] at c1 hbl2
        have hp : ((q : Int) % 2 == 0) = false := by simp; omega
        have hq1 : 1 ≤ q := by omega
        have hq2 : (1 : Int) ≤ (q : Int) := by omega
        clear hbe hpar
        go_wp2_with (at_builtin; refine wpList_append_lies _ rfl _ _ 39 rfl w1.heap.size 9 i0 (.string ⟨#[]⟩) 1 16 Tryz.underlying39 hi0 hz0 hz1 hz2 rfl (by omega) _ k _ rfl (HO6.out.alloc _) ⟨wr.heap.size, 0, none⟩ 1 1 [strV X] rfl rfl (World.news_of_block (cs := #[strV X]) (t := 9) (fr := (0, 0)) (heap_alloc_new wr _)) (strV_one X) (by omega) HC1.out HC2.out (HC3.out _) (wr.heap.size + 1) (by simp) ?_)
        intro g9 cap9 w9 hown9 hg9 _ _
        have B9 := Lib.hid ((HB6.out.alloc HB6.out.size _).grown hg9 (HC3.out _) (fun j hj => (HO6.out.lt j hj).1))
        have HO9 := Lib.hid hown9
        clear hown9 hg9 c0 c1
        go_wp2
        go_roundw
        case rel => exact ⟨k + 1, q / 2, by omega, by go_num, HQ.out, by omega, by go_num, by rw [HP2.out, HPT.out, List.map_append]; exact HO9.out, B9.out⟩
        case measure => simp [intOf]; omega
    · obtain rfl : k = H := by omega
      have hpl := pathTo_length ss i k
      obtain ⟨a2, c2, rfl, hrow⟩ := own_strs hown6 hpl
      have C9 := Lib.hid (HB.out.trans (hb6.mono HB.out.size))
      have HROW := Lib.hid hrow
      rw [hpl]
      clear hown6 hb6 hrow hpl hq
      go_wp2
      go_ret
      exact ⟨⟨_, _, rfl, HROW.out⟩, C9.out⟩


end Go.Proofs.YtanplccigmihfaaGreatDoor
