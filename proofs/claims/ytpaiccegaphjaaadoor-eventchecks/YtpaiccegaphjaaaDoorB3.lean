/-
  Contracts of the law's own long and of the document's Fold.
  Contracts of the document's Levels and Root.
  Contracts of the document's Root and Path, and of the law's own same.
-/
import Derived.Test.YtpaiccegaphjaaaDoorB2
namespace Go.Pal
open Go.RowKit
/-- What the law's long tells: no, then none of the first twenty is long. -/
def LongV (ss : List ByteArray) (v : Value) : Prop := ∃ b : Bool, v = .bool b ∧ (b = false → ∀ i, i < 20 → (ss.getD i ByteArray.empty).size ≤ 300)
/-- What is summed at a step of a path. -/
def stepIn (leaf : ByteArray) (i : Nat) (path : List ByteArray) (k : Nat) : ByteArray :=
  if i / 2 ^ k % 2 = 1 then ⟨(inputL 4 [path.getD k ByteArray.empty, foldAt leaf i path k]).toArray⟩ else ⟨(inputL 4 [foldAt leaf i path k, path.getD k ByteArray.empty]).toArray⟩
theorem foldAt_in (leaf : ByteArray) (i : Nat) (path : List ByteArray) (k : Nat) : foldAt leaf i path (k + 1) = shaB (stepIn leaf i path k) := by
  rw [foldAt, stepIn]
  split <;> rfl
def roadTo (leaf : ByteArray) (i : Nat) (path : List ByteArray) (k : Nat) : List ByteArray := (List.range k).map (stepIn leaf i path)
theorem roadTo_succ (leaf : ByteArray) (i : Nat) (path : List ByteArray) (k : Nat) : roadTo leaf i path (k + 1) = roadTo leaf i path k ++ [stepIn leaf i path k] := by simp [roadTo, List.range_succ]
theorem roadTo_length (leaf : ByteArray) (i : Nat) (path : List ByteArray) (k : Nat) : (roadTo leaf i path k).length = k := by simp [roadTo]
theorem roadTo_get (leaf : ByteArray) (i : Nat) (path : List ByteArray) (n k : Nat) (h : k < n) : (roadTo leaf i path n).getD k ByteArray.empty = stepIn leaf i path k := by
  rw [List.getD_eq_getElem?_getD, roadTo, List.getElem?_map, List.getElem?_range h]
  rfl
theorem strRow_alloc {w : World} {a : Option Addr} {ss : List ByteArray} (h : StrRow w a ss) (o : Obj) : StrRow (w.alloc o) a ss := h.below ((Below.refl _ _).alloc (Nat.le_refl _) o)
end Go.Pal
namespace Go.Proofs.YtpaiccegaphjaaaDoor
open Go.RowKit Go.Pal


set_option maxHeartbeats 1000000 in
set_option maxRecDepth 100000 in
theorem reffold_no (w : World) (leaf : ByteArray) (i : Int) (a : Option Addr) (n cap : Nat) (h : 4 < n ∨ i < 0 ∨ 2 ^ n ≤ i) (hn : n ≤ maxLen) :
    Calls Tryd.prog 22 #[.string leaf, .int .i64 i, .slice a n cap] w fun e w' => e = .returned (.tuple #[.string ⟨#[]⟩, .slice none 0 0, .bool false]) ∧ w = w' := by
  unfold maxLen at hn
  have HH := Lib.hid h
  clear h
  go_enter Tryd.func22, Tryd.ntmps22
  go_wp2
  go_loop [9, 10] (fun v i => ∃ k p : Nat, k ≤ n ∧ k ≤ 5 ∧ i = .int .i64 k ∧ v = .int .i64 p ∧ p = 2 ^ k ∧ p ≤ 32) (fun _ i => 5 - (intOf i).toNat)
  case atStart => exact ⟨0, 1, by omega, by omega, rfl, rfl, rfl, by omega⟩
  case round =>
    obtain ⟨k, p, hk, hk2, rfl, rfl, hp, hp2⟩ := hrel
    have HP := Lib.hid hp
    clear hp
    by_cases hgo : k < n ∧ k < 5
    · obtain ⟨h1, h2⟩ := hgo
      go_wp2
      go_round
      case rel =>
        refine ⟨k + 1, 2 * p, by omega, by omega, by go_num, by go_num, by rw [HP.out, Nat.pow_succ]; omega, ?_⟩
        have : k = 0 ∨ k = 1 ∨ k = 2 ∨ k = 3 ∨ k = 4 := by omega
        have e := HP.out
        rcases this with rfl | rfl | rfl | rfl | rfl <;> omega
      case measure => simp [intOf]; omega
    · have hcase : (k < n ∧ k = 5) ∨ (k = n ∧ 4 < n) ∨ (k = n ∧ n ≤ 4 ∧ i < 0) ∨ (k = n ∧ n ≤ 4 ∧ 0 ≤ i ∧ (p : Int) ≤ i) := by
        rcases HH.out with h | h | h
        · omega
        · omega
        · by_cases h4 : 4 < n
          · omega
          · by_cases h5 : i < 0
            · omega
            · have e : k = n := by omega
              have e2 : (p : Int) ≤ i := by rw [HP.out, e, Int.natCast_pow]; exact h
              omega
      clear hgo HH
      rcases hcase with ⟨h1, rfl⟩ | ⟨rfl, h1⟩ | ⟨rfl, h1, h2⟩ | ⟨rfl, h1, h2, h3⟩
      all_goals
        go_wp2
        go_ret3
        exact ⟨rfl, rfl⟩

set_option maxHeartbeats 1000000 in
set_option maxRecDepth 100000 in
theorem reffold_yes (w : World) (leaf : ByteArray) (i : Nat) (a : Option Addr) (cap : Nat) (ss : List ByteArray) (hn : ss.length ≤ 4) (hi : i < 2 ^ ss.length) (hlf : leaf.size ≤ 1000000) (hss : StrRow w a ss) (hsm : SmallL ss) :
    Calls Tryd.prog 22 #[.string leaf, .int .i64 i, .slice a ss.length cap] w fun e w' => (∃ v, e = .returned (.tuple #[.string (foldAt leaf i ss ss.length), v, .bool true]) ∧ w'.ownsRow w.heap.size 9 1 v ss.length ((roadTo leaf i ss ss.length).map strV)) ∧ Below w.heap.size w w' := by
  obtain ⟨i0, hi0, hz0, hz1, hz2⟩ := info_parts (show (Tryd.prog.info? 9).map (fun i => (i.zero, i.size, i.bytes)) = some (some (.string ⟨#[]⟩), 1, 16) by kernel_rfl)
  have HZ := Lib.hid (foldAt_size leaf i ss hlf)
  have HST := Lib.hid (foldAt_in leaf i ss)
  have HRD := Lib.hid (roadTo_succ leaf i ss)
  have hin : ∀ k, stepIn leaf i ss k = if i / 2 ^ k % 2 = 1 then ⟨(inputL 4 [ss.getD k ByteArray.empty, foldAt leaf i ss k]).toArray⟩ else ⟨(inputL 4 [foldAt leaf i ss k, ss.getD k ByteArray.empty]).toArray⟩ := fun k => rfl
  have HIN := Lib.hid hin
  have HSS := Lib.hid hss
  have HSM := Lib.hid hsm
  have H0 := Lib.hid (show foldAt leaf i ss 0 = leaf from rfl)
  have HR0 := Lib.hid (show roadTo leaf i ss 0 = [] from rfl)
  obtain ⟨C, hC⟩ : ∃ C, C = foldAt leaf i ss := ⟨_, rfl⟩
  rw [← hC] at HZ HST H0 HIN ⊢
  obtain ⟨R, hR⟩ : ∃ R, R = roadTo leaf i ss := ⟨_, rfl⟩
  obtain ⟨I, hI⟩ : ∃ I, I = stepIn leaf i ss := ⟨_, rfl⟩
  rw [← hR] at HRD HR0 ⊢
  rw [← hI] at HRD HST HIN
  have HI := Lib.hid hi0
  have HZ0 := Lib.hid hz0
  have HZ1 := Lib.hid hz1
  have HZ2 := Lib.hid hz2
  have HIL := Lib.hid hi
  clear hss hsm hC hR hI hin hi0 hz0 hz1 hz2 hi
  go_enter Tryd.func22, Tryd.ntmps22
  go_wp2
  go_loop [9, 10] (fun v i => ∃ k p : Nat, k ≤ ss.length ∧ k ≤ 5 ∧ i = .int .i64 k ∧ v = .int .i64 p ∧ p = 2 ^ k ∧ p ≤ 32) (fun _ i => 5 - (intOf i).toNat)
  case atStart => exact ⟨0, 1, by omega, by omega, rfl, rfl, rfl, by omega⟩
  case round =>
    obtain ⟨k, p, hk, hk2, rfl, rfl, hp, hp2⟩ := hrel
    have HP := Lib.hid hp
    clear hp
    by_cases hgo : k < ss.length
    · go_wp2
      go_round
      case rel =>
        refine ⟨k + 1, 2 * p, by omega, by omega, by go_num, by go_num, by rw [HP.out, Nat.pow_succ]; omega, ?_⟩
        have : k = 0 ∨ k = 1 ∨ k = 2 ∨ k = 3 := by omega
        have e := HP.out
        rcases this with rfl | rfl | rfl | rfl <;> omega
      case measure => simp [intOf]; omega
    · obtain rfl : k = ss.length := by omega
      have hip : i < p := by rw [HP.out]; exact HIL.out
      have hi32 : i < 32 := by omega
      clear hk hk2 hgo
      go_wp2
      go_loopw [0, 1, 11, 12] (fun v0 vi v11 vc wr => ∃ k q : Nat, k ≤ ss.length ∧ vi = .int .i64 q ∧ q = i / 2 ^ k ∧ q ≤ i ∧ v0 = .string (C k) ∧ vc = .int .i64 k ∧ wr.ownsRow w.heap.size 9 1 v11 k ((R k).map strV) ∧ Below w.heap.size w wr) (fun _ _ _ vc _ => ss.length - (intOf vc).toNat)
      case atStart => exact ⟨0, i, by omega, rfl, by simp, by omega, by rw [H0.out], rfl, by rw [HR0.out]; exact World.ownsRow_nil _ _ _ _, Below.refl _ _⟩
      case round =>
        clear hip
        obtain ⟨k, q, hk, rfl, hq, hqi, rfl, rfl, hown, hb⟩ := hrel
        by_cases hlt : k < ss.length
        · rcases HSS.out with h0 | ⟨b, off, rfl, hbl, hc⟩
          · rw [h0] at hlt; simp at hlt
          have c0 := (hb.cell (p := ⟨b, off + k, none⟩) hbl).trans (hc k hlt)
          have hin := HIN.out k
          have hst := HST.out k
          have hrd := HRD.out k
          have hqh : q / 2 = i / 2 ^ (k + 1) := by rw [half_step, ← hq]
          rw [← hq] at hin
          have hz := HZ.out k
          have hps := HSM.out k
          generalize ss.getD k ByteArray.empty = s at *
          generalize C k = X at *
          generalize hX2 : C (k + 1) = X2 at *
          generalize I k = J at *
          generalize R k = Rk at *
          generalize hR2 : R (k + 1) = Rk2 at *
          have HX2 := Lib.hid hX2
          have HR2 := Lib.hid hR2
          have HB := Lib.hid hb
          have HO := Lib.hid hown
          have HQ := Lib.hid hqh
          have HSTP := Lib.hid hst
          have HRDP := Lib.hid hrd
          have HC1 : Hid (k + 1 ≤ maxLen) := Lib.hid (by unfold maxLen; omega)
          have HC2 : Hid ((k + 1) * 16 ≤ 140737488355328) := Lib.hid (by omega)
          clear hX2 hR2 hb hqh hc hq hown hst hrd
          have hcase : (q % 2 = 1 ∧ ∃ x y, x = s ∧ y = X) ∨ (q % 2 = 0 ∧ ∃ x y, x = X ∧ y = s) := by
            by_cases h : q % 2 = 1
            · exact .inl ⟨h, _, _, rfl, rfl⟩
            · exact .inr ⟨by omega, _, _, rfl, rfl⟩
          rcases hcase with ⟨hpar, x, y, hx, hy⟩ | ⟨hpar, x, y, hx, hy⟩
          all_goals
            first | rw [if_pos hpar, ← hx, ← hy] at hin | rw [if_neg (by omega), ← hx, ← hy] at hin
            have htot : totL [x, y] ≤ 9000000 := by rw [hx, hy]; simp [totL]; omega
            have HRI := Lib.hid (fun W aa cc h => refinput_any W 4 aa cc [x, y] h (by omega) (by simp))
            have HRT := Lib.hid (fun W aa cc h => reftag_any W 4 aa cc [x, y] h htot (by simp))
            rw [← hin] at HRI HRT
            subst hx hy
            have hp : ((q : Int) % 2 == 1) = decide (q % 2 = 1) := by rw [Bool.eq_iff_iff, beq_iff_eq, decide_eq_true_eq]; omega
            rw [show decide (q % 2 = 1) = _ from by first | exact decide_eq_true hpar | exact decide_eq_false (by omega)] at hp
            clear hin htot hpar
            go_wp2
            go_quiet (fail)
            go_wp2_with fail
            have c0 := below_drewN HB.out nq
            have c1 := c0.alloc c0.size (.cells #[.string x, .string y] 9)
            have o0 : (wr.drewN nq).ownsRow w.heap.size 9 1 u11 k (Rk.map strV) := HO.out
            have o1 := o0.alloc (.cells #[.string x, .string y] 9)
            refine (HRI.out _ _ _ (strs2t (wr.drewN nq) 9 x y)).mono ?_
            rintro e w4 ⟨rfl, b4⟩
            have HO4 := Lib.hid (o1.kept (Lib.grownBy_below (World.grownBy.refl _ none) b4) (by cases h : Value.ownBlock _ <;> simp))
            have C4 := Lib.hid (c1.trans (b4.mono c1.size))
            have HC3 : Hid (∀ o : Obj, w.heap.size ≤ (w4.alloc o).heap.size) := Lib.hid (fun o => by have := C4.out.size; simp; omega)
            clear c0 c1 o0 o1 b4
            go_wp2_with (at_builtin; refine wpList_append_lies _ rfl _ _ 22 rfl w.heap.size 9 i0 (.string ⟨#[]⟩) 1 16 Tryd.underlying22 HI.out HZ0.out HZ1.out HZ2.out rfl (by omega) _ k _ rfl (HO4.out.alloc _) ⟨w4.heap.size, 0, none⟩ 1 1 [strV J] rfl rfl (World.news_of_block (cs := #[strV J]) (t := 9) (fr := (0, 0)) (heap_alloc_new w4 _)) (strV_one J) (by omega) HC1.out HC2.out (HC3.out _) (w4.heap.size + 1) (by simp) ?_)
            intro g5 cap5 w5 hown5 hg5 _ _
            have C5 := Lib.hid ((C4.out.alloc C4.out.size _).grown hg5 (HC3.out _) (fun j hj => (HO4.out.lt j hj).1))
            have HO5 := Lib.hid hown5
            clear hown5 hg5 HO4 C4 HC3
            go_wp2_with fail
            have c6 := C5.out.alloc C5.out.size (.cells #[.string x, .string y] 9)
            refine (HRT.out _ _ _ (strs2t w5 9 x y)).mono ?_
            rintro e w7 ⟨rfl, b7⟩
            have C7 := Lib.hid (c6.trans (b7.mono c6.size))
            have HO7 := Lib.hid ((HO5.out.alloc _).kept (Lib.grownBy_below (World.grownBy.refl _ none) b7) (by simp [Value.ownBlock]))
            clear c6 b7 HO5 C5
            rw [← HSTP.out]
            go_wp2
            go_roundw
            case rel => exact ⟨k + 1, q / 2, by omega, by go_num, HQ.out, by omega, by rw [HX2.out], by go_num, by rw [HR2.out, HRDP.out, List.map_append]; exact HO7.out, C7.out⟩
            case measure => simp [intOf]; omega
        · obtain rfl : k = ss.length := by omega
          have HB := Lib.hid hb
          have HO := Lib.hid hown
          clear hb hq hown
          go_wp2
          go_ret3
          exact ⟨⟨_, rfl, HO.out⟩, HB.out⟩

end Go.Proofs.YtpaiccegaphjaaaDoor
namespace Go.Pal
open Go.RowKit
theorem rowUp_take (l : List ByteArray) (j : Nat) (h : j < l.length / 2) : (rowUp l).take (j + 1) = (rowUp l).take j ++ [pairB (l.getD (2 * j) ByteArray.empty) (l.getD (2 * j + 1) ByteArray.empty)] := by
  have hl : j < (rowUp l).length := by rw [rowUp_length]; exact h
  rw [List.take_succ_eq_append_getElem hl]
  have := rowUp_get l j h
  rw [List.getD_eq_getElem?_getD, List.getElem?_eq_getElem hl] at this
  rw [← this]; rfl
/-- The rows, one behind the other, as slices in a row of their own; none lies in block B. -/
def LevRows (w : World) (B : Option Nat) (l : List ByteArray) (vs : List Value) (k : Nat) : Prop :=
  vs.length = k + 1 ∧ ∀ j, j ≤ k → ∃ b off c, vs[j]? = some (.slice (some ⟨b, off, none⟩) (rowN j l).length c) ∧ StrRow w (some ⟨b, off, none⟩) (rowN j l) ∧ b < w.heap.size ∧ B ≠ some b
theorem strRow_grown {w w' : World} {row : Option Nat} {b off : Nat} {l : List ByteArray} (h : StrRow w (some ⟨b, off, none⟩) l) (hg : w.grownBy w' row) (hb : b < w.heap.size) (hne : row ≠ some b) : StrRow w' (some ⟨b, off, none⟩) l := by
  rcases h with h | ⟨b2, o2, he, hl, hc⟩
  · exact .inl h
  · cases he
    exact .inr ⟨b, off, rfl, Nat.lt_of_lt_of_le hl hg.size, fun i hi => (hg.cell_far ⟨b, off + i, none⟩ hb (Ne.symm hne)).trans (hc i hi)⟩
theorem LevRows.below {w w' : World} {B : Option Nat} {l : List ByteArray} {vs : List Value} {k : Nat} (h : LevRows w B l vs k) (hb : Below w.heap.size w w') : LevRows w' B l vs k :=
  ⟨h.1, fun j hj => by
    obtain ⟨b, off, c, h1, h2, h3, h4⟩ := h.2 j hj
    exact ⟨b, off, c, h1, h2.below hb, Nat.lt_of_lt_of_le h3 hb.size, h4⟩⟩
end Go.Pal
namespace Go.Proofs.YtpaiccegaphjaaaDoor
open Go.RowKit Go.Pal

theorem slice_one (v : Value) (h : v.oneCell' = true) : ∀ u ∈ [v], u.oneCell' = true := by
  intro u hu
  obtain rfl : u = v := by simpa using hu
  exact h

end Go.Proofs.YtpaiccegaphjaaaDoor
namespace Go.Pal
open Go.RowKit
theorem own_strs {w : World} {base : Nat} {t : TypeId} {v : Value} {n : Nat} {l : List ByteArray} (h : w.ownsRow base t 1 v n (l.map strV)) (hn : l.length = n) : ∃ a cap, v = .slice a l.length cap ∧ StrRow w a l := by
  subst hn
  rcases h.2 with ⟨rfl, h0⟩ | ⟨g, cap, cur, rfl, hb, hg, _⟩
  · exact ⟨none, 0, by rw [h0], .inl (List.eq_nil_of_length_eq_zero h0)⟩
  · refine ⟨some ⟨g, 0, none⟩, cap, rfl, .inr ⟨g, 0, rfl, (h.lt g rfl).2, fun i hi => ?_⟩⟩
    rw [Nat.zero_add, h.cellAt i (by omega), strs_get? l i hi]
theorem small_of_long (ps : List ByteArray) (h4 : ps.length ≤ 20) (h : ∀ i, i < 20 → (ps.getD i ByteArray.empty).size ≤ 300) : SmallL ps := by
  intro i
  by_cases hi : i < 20
  · have := h i hi; omega
  · rw [List.getD_eq_getElem?_getD, List.getElem?_eq_none (by omega)]
    show ByteArray.empty.size ≤ _; decide
theorem strRow_some {w : World} {a : Option Addr} {l : List ByteArray} (h : StrRow w a l) (h0 : 0 < l.length) : ∃ b off, a = some ⟨b, off, none⟩ ∧ b < w.heap.size := by
  rcases h with h | ⟨b, off, rfl, hbl, _⟩
  · rw [h] at h0; simp at h0
  · exact ⟨b, off, rfl, hbl⟩
theorem strRow_cell {w : World} {b off : Nat} {l : List ByteArray} (h : StrRow w (some ⟨b, off, none⟩) l) (i : Nat) (hi : i < l.length) : w.cell? ⟨b, off + i, none⟩ = some (.string (l.getD i ByteArray.empty)) := by
  rcases h with h | ⟨b2, o2, he, _, hc⟩
  · rw [h] at hi; simp at hi
  · cases he; exact hc i hi
end Go.Pal
namespace Go.Proofs.YtpaiccegaphjaaaDoor
open Go.RowKit Go.Pal

end Go.Proofs.YtpaiccegaphjaaaDoor
