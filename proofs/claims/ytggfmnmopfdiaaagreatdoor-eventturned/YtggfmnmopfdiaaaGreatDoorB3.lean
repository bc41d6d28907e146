/-
  Contracts of the law's own long and of the document's Fold.
  Contracts of the document's Levels and Root.
  Contracts of the document's Root and Path, and of the law's own same.
-/
import Derived.Test.YtggfmnmopfdiaaaGreatDoorB2
namespace Go.Pal
open Go.RowKit
/-- What the law's long tells: no, then none of the first twenty is long. -/
def LongV (ss : List ByteArray) (v : Value) : Prop := ∃ b : Bool, v = .bool b ∧ (b = false → ∀ i, i < 20 → (ss.getD i ByteArray.empty).size ≤ 300)
/-- What is summed at a step of a path. -/
def stepIn (leaf : ByteArray) (i : Nat) (path : List ByteArray) (k : Nat) : ByteArray :=
  if i / 2 ^ k % 2 = 1 then ⟨(inputL 4 [path.getD k ByteArray.empty, foldAt leaf i path k]).toArray⟩ else ⟨(inputL 4 [foldAt leaf i path k, path.getD k ByteArray.empty]).toArray⟩
theorem foldAt_in (leaf : ByteArray) (i : Nat) (path : List ByteArray) (k : Nat) : foldAt leaf i path (k + 1) = shaB (stepIn leaf i path k) := by
  rw [foldAt, stepIn]
  split <;> rfl
def roadTo (leaf : ByteArray) (i : Nat) (path : List ByteArray) (k : Nat) : List ByteArray := (List.range k).map (stepIn leaf i path)
theorem roadTo_succ (leaf : ByteArray) (i : Nat) (path : List ByteArray) (k : Nat) : roadTo leaf i path (k + 1) = roadTo leaf i path k ++ [stepIn leaf i path k] := by simp [roadTo, List.range_succ]
theorem roadTo_length (leaf : ByteArray) (i : Nat) (path : List ByteArray) (k : Nat) : (roadTo leaf i path k).length = k := by simp [roadTo]
theorem roadTo_get (leaf : ByteArray) (i : Nat) (path : List ByteArray) (n k : Nat) (h : k < n) : (roadTo leaf i path n).getD k ByteArray.empty = stepIn leaf i path k := by
  rw [List.getD_eq_getElem?_getD, roadTo, List.getElem?_map, List.getElem?_range h]
  rfl
theorem strRow_alloc {w : World} {a : Option Addr} {ss : List ByteArray} (h : StrRow w a ss) (o : Obj) : StrRow (w.alloc o) a ss := h.below ((Below.refl _ _).alloc (Nat.le_refl _) o)
end Go.Pal
namespace Go.Proofs.YtggfmnmopfdiaaaGreatDoor
open Go.RowKit Go.Pal


set_option maxHeartbeats 1000000 in
set_option maxRecDepth 100000 in
theorem reffold_no (w : World) (leaf : ByteArray) (i : Int) (a : Option Addr) (n cap : Nat) (h : 4 < n ∨ i < 0 ∨ 2 ^ n ≤ i) (hn : n ≤ maxLen) :
    Calls Tryz.prog 43 #[.string leaf, .int .i64 i, .slice a n cap] w fun e w' => e = .returned (.tuple #[.string ⟨#[]⟩, .slice none 0 0, .bool false]) ∧ w = w' := by
  unfold maxLen at hn
  have HH := Lib.hid h
  clear h
  go_enter Tryz.func43, Tryz.ntmps43
  go_wp2
  go_loop [9, 10] (fun v i => ∃ k p : Nat, k ≤ n ∧ k ≤ 5 ∧ i = .int .i64 k ∧ v = .int .i64 p ∧ p = 2 ^ k ∧ p ≤ 32) (fun _ i => 5 - (intOf i).toNat)
  case atStart => exact ⟨0, 1, by omega, by omega, rfl, rfl, rfl, by omega⟩
  case round =>
    obtain ⟨k, p, hk, hk2, rfl, rfl, hp, hp2⟩ := hrel
    have HP := Lib.hid hp
    clear hp
    by_cases hgo : k < n ∧ k < 5
    · obtain ⟨h1, h2⟩ := hgo
      go_wp2
      go_round
      case rel =>
        refine ⟨k + 1, 2 * p, by omega, by omega, by go_num, by go_num, by rw [HP.out, Nat.pow_succ]; omega, ?_⟩
        have : k = 0 ∨ k = 1 ∨ k = 2 ∨ k = 3 ∨ k = 4 := by omega
        have e := HP.out
        rcases this with rfl | rfl | rfl | rfl | rfl <;> omega
      case measure => simp [intOf]; omega
    · have hcase : (k < n ∧ k = 5) ∨ (k = n ∧ 4 < n) ∨ (k = n ∧ n ≤ 4 ∧ i < 0) ∨ (k = n ∧ n ≤ 4 ∧ 0 ≤ i ∧ (p : Int) ≤ i) := by
        rcases HH.out with h | h | h
        · omega
        · omega
        · by_cases h4 : 4 < n
          · omega
          · by_cases h5 : i < 0
            · omega
            · have e : k = n := by omega
              have e2 : (p : Int) ≤ i := by rw [HP.out, e, Int.natCast_pow]; exact h
              omega
      clear hgo HH
      rcases hcase with ⟨h1, rfl⟩ | ⟨rfl, h1⟩ | ⟨rfl, h1, h2⟩ | ⟨rfl, h1, h2, h3⟩
      all_goals
        go_wp2
        go_ret3
        exact ⟨rfl, rfl⟩

set_option maxHeartbeats 1000000 in
set_option maxRecDepth 100000 in
theorem reffold_yes (w : World) (leaf : ByteArray) (i : Nat) (a : Option Addr) (cap : Nat) (ss : List ByteArray) (hn : ss.length ≤ 4) (hi : i < 2 ^ ss.length) (hlf : leaf.size ≤ 1000000) (hss : StrRow w a ss) (hsm : SmallL ss) :
    Calls Tryz.prog 43 #[.string leaf, .int .i64 i, .slice a ss.length cap] w fun e w' => (∃ v, e = .returned (.tuple #[.string (foldAt leaf i ss ss.length), v, .bool true]) ∧ w'.ownsRow w.heap.size 9 1 v ss.length ((roadTo leaf i ss ss.length).map strV)) ∧ Below w.heap.size w w' := by
  obtain ⟨i0, hi0, hz0, hz1, hz2⟩ := info_parts (show (Tryz.prog.info? 9).map (fun i => (i.zero, i.size, i.bytes)) = some (some (.string ⟨#[]⟩), 1, 16) by kernel_rfl)
  have HZ := Lib.hid (foldAt_size leaf i ss hlf)
  have HST := Lib.hid (foldAt_in leaf i ss)
  have HRD := Lib.hid (roadTo_succ leaf i ss)
  have hin : ∀ k, stepIn leaf i ss k = if i / 2 ^ k % 2 = 1 then ⟨(inputL 4 [ss.getD k ByteArray.empty, foldAt leaf i ss k]).toArray⟩ else ⟨(inputL 4 [foldAt leaf i ss k, ss.getD k ByteArray.empty]).toArray⟩ := fun k => rfl
  have HIN := Lib.hid hin
  have HSS := Lib.hid hss
  have HSM := Lib.hid hsm
  have H0 := Lib.hid (show foldAt leaf i ss 0 = leaf from rfl)
  have HR0 := Lib.hid (show roadTo leaf i ss 0 = [] from rfl)
  obtain ⟨C, hC⟩ : ∃ C, C = foldAt leaf i ss := ⟨_, rfl⟩
  rw [← hC] at HZ HST H0 HIN ⊢
  obtain ⟨R, hR⟩ : ∃ R, R = roadTo leaf i ss := ⟨_, rfl⟩
  obtain ⟨I, hI⟩ : ∃ I, I = stepIn leaf i ss := ⟨_, rfl⟩
  rw [← hR] at HRD HR0 ⊢
  rw [← hI] at HRD HST HIN
  have HI := Lib.hid hi0
  have HZ0 := Lib.hid hz0
  have HZ1 := Lib.hid hz1
  have HZ2 := Lib.hid hz2
  have HIL := Lib.hid hi
  clear hss hsm hC hR hI hin hi0 hz0 hz1 hz2 hi
  go_enter Tryz.func43, Tryz.ntmps43
  go_wp2
  go_loop [9, 10] (fun v i => ∃ k p : Nat, k ≤ ss.length ∧ k ≤ 5 ∧ i = .int .i64 k ∧ v = .int .i64 p ∧ p = 2 ^ k ∧ p ≤ 32) (fun _ i => 5 - (intOf i).toNat)
  case atStart => exact ⟨0, 1, by omega, by omega, rfl, rfl, rfl, by omega⟩
  case round =>
    obtain ⟨k, p, hk, hk2, rfl, rfl, hp, hp2⟩ := hrel
    have HP := Lib.hid hp
    clear hp
    by_cases hgo : k < ss.length
    · go_wp2
      go_round
      case rel =>
        refine ⟨k + 1, 2 * p, by omega, by omega, by go_num, by go_num, by rw [HP.out, Nat.pow_succ]; omega, ?_⟩
        have : k = 0 ∨ k = 1 ∨ k = 2 ∨ k = 3 := by omega
        have e := HP.out
        rcases this with rfl | rfl | rfl | rfl <;> omega
      case measure => simp [intOf]; omega
    · obtain rfl : k = ss.length := by omega
      have hip : i < p := by rw [HP.out]; exact HIL.out
      have hi32 : i < 32 := by omega
      clear hk hk2 hgo
      go_wp2
      go_loopw [0, 1, 11, 12] (fun v0 vi v11 vc wr => ∃ k q : Nat, k ≤ ss.length ∧ vi = .int .i64 q ∧ q = i / 2 ^ k ∧ q ≤ i ∧ v0 = .string (C k) ∧ vc = .int .i64 k ∧ wr.ownsRow w.heap.size 9 1 v11 k ((R k).map strV) ∧ Below w.heap.size w wr) (fun _ _ _ vc _ => ss.length - (intOf vc).toNat)
      case atStart => exact ⟨0, i, by omega, rfl, by simp, by omega, by rw [H0.out], rfl, by rw [HR0.out]; exact World.ownsRow_nil _ _ _ _, Below.refl _ _⟩
      case round =>
        clear hip
        obtain ⟨k, q, hk, rfl, hq, hqi, rfl, rfl, hown, hb⟩ := hrel
        by_cases hlt : k < ss.length
        · rcases HSS.out with h0 | ⟨b, off, rfl, hbl, hc⟩
          · rw [h0] at hlt; simp at hlt
          have c0 := (hb.cell (p := ⟨b, off + k, none⟩) hbl).trans (hc k hlt)
          have hin := HIN.out k
          have hst := HST.out k
          have hrd := HRD.out k
          have hqh : q / 2 = i / 2 ^ (k + 1) := by rw [half_step, ← hq]
          rw [← hq] at hin
          have hz := HZ.out k
          have hps := HSM.out k
          generalize ss.getD k ByteArray.empty = s at *
          generalize C k = X at *
          generalize hX2 : C (k + 1) = X2 at *
          generalize I k = J at *
          generalize R k = Rk at *
          generalize hR2 : R (k + 1) = Rk2 at *
          have HX2 := Lib.hid hX2
          have HR2 := Lib.hid hR2
          have HB := Lib.hid hb
          have HO := Lib.hid hown
          have HQ := Lib.hid hqh
          have HSTP := Lib.hid hst
          have HRDP := Lib.hid hrd
          have HC1 : Hid (k + 1 ≤ maxLen) := Lib.hid (by unfold maxLen; omega)
          have HC2 : Hid ((k + 1) * 16 ≤ 140737488355328) := Lib.hid (by omega)
          clear hX2 hR2 hb hqh hc hq hown hst hrd
          have hcase : (q % 2 = 1 ∧ ∃ x y, x = s ∧ y = X) ∨ (q % 2 = 0 ∧ ∃ x y, x = X ∧ y = s) := by
            by_cases h : q % 2 = 1
            · exact .inl ⟨h, _, _, rfl, rfl⟩
            · exact .inr ⟨by omega, _, _, rfl, rfl⟩
          rcases hcase with ⟨hpar, x, y, hx, hy⟩ | ⟨hpar, x, y, hx, hy⟩
          all_goals
            first | rw [if_pos hpar, ← hx, ← hy] at hin | rw [if_neg (by omega), ← hx, ← hy] at hin
            have htot : totL [x, y] ≤ 9000000 := by rw [hx, hy]; simp [totL]; omega
            have HRI := Lib.hid (fun W aa cc h => refinput_any W 4 aa cc [x, y] h (by omega) (by simp))
            have HRT := Lib.hid (fun W aa cc h => reftag_any W 4 aa cc [x, y] h htot (by simp))
            rw [← hin] at HRI HRT
            subst hx hy
            have hp : ((q : Int) % 2 == 1) = decide (q % 2 = 1) := by rw [Bool.eq_iff_iff, beq_iff_eq, decide_eq_true_eq]; omega
            rw [show decide (q % 2 = 1) = _ from by first | exact decide_eq_true hpar | exact decide_eq_false (by omega)] at hp
            clear hin htot hpar
            go_wp2
            go_quiet (fail)
            go_wp2_with fail
            have c0 := below_drewN HB.out nq
            have c1 := c0.alloc c0.size (.cells #[.string x, .string y] 9)
            have o0 : (wr.drewN nq).ownsRow w.heap.size 9 1 u11 k (Rk.map strV) := HO.out
            have o1 := o0.alloc (.cells #[.string x, .string y] 9)
            refine (HRI.out _ _ _ (strs2t (wr.drewN nq) 9 x y)).mono ?_
            rintro e w4 ⟨rfl, b4⟩
            have HO4 := Lib.hid (o1.kept (Lib.grownBy_below (World.grownBy.refl _ none) b4) (by cases h : Value.ownBlock _ <;> simp))
            have C4 := Lib.hid (c1.trans (b4.mono c1.size))
            have HC3 : Hid (∀ o : Obj, w.heap.size ≤ (w4.alloc o).heap.size) := Lib.hid (fun o => by have := C4.out.size; simp; omega)
            clear c0 c1 o0 o1 b4
            go_wp2_with (at_builtin; refine wpList_append_lies _ rfl _ _ 22 rfl w.heap.size 9 i0 (.string ⟨#[]⟩) 1 16 Tryz.underlying22 HI.out HZ0.out HZ1.out HZ2.out rfl (by omega) _ k _ rfl (HO4.out.alloc _) ⟨w4.heap.size, 0, none⟩ 1 1 [strV J] rfl rfl (World.news_of_block (cs := #[strV J]) (t := 9) (fr := (0, 0)) (heap_alloc_new w4 _)) (strV_one J) (by omega) HC1.out HC2.out (HC3.out _) (w4.heap.size + 1) (by simp) ?_)
            intro g5 cap5 w5 hown5 hg5 _ _
            have C5 := Lib.hid ((C4.out.alloc C4.out.size _).grown hg5 (HC3.out _) (fun j hj => (HO4.out.lt j hj).1))
            have HO5 := Lib.hid hown5
            clear hown5 hg5 HO4 C4 HC3
            go_wp2_with fail
            have c6 := C5.out.alloc C5.out.size (.cells #[.string x, .string y] 9)
            refine (HRT.out _ _ _ (strs2t w5 9 x y)).mono ?_
            rintro e w7 ⟨rfl, b7⟩
            have C7 := Lib.hid (c6.trans (b7.mono c6.size))
            have HO7 := Lib.hid ((HO5.out.alloc _).kept (Lib.grownBy_below (World.grownBy.refl _ none) b7) (by simp [Value.ownBlock]))
            clear c6 b7 HO5 C5
            rw [← HSTP.out]
            go_wp2
            go_roundw
            case rel => exact ⟨k + 1, q / 2, by omega, by go_num, HQ.out, by omega, by rw [HX2.out], by go_num, by rw [HR2.out, HRDP.out, List.map_append]; exact HO7.out, C7.out⟩
            case measure => simp [intOf]; omega
        · obtain rfl : k = ss.length := by omega
          have HB := Lib.hid hb
          have HO := Lib.hid hown
          clear hb hq hown
          go_wp2
          go_ret3
          exact ⟨⟨_, rfl, HO.out⟩, HB.out⟩

end Go.Proofs.YtggfmnmopfdiaaaGreatDoor
namespace Go.Pal
open Go.RowKit
theorem rowUp_take (l : List ByteArray) (j : Nat) (h : j < l.length / 2) : (rowUp l).take (j + 1) = (rowUp l).take j ++ [pairB (l.getD (2 * j) ByteArray.empty) (l.getD (2 * j + 1) ByteArray.empty)] := by
  have hl : j < (rowUp l).length := by rw [rowUp_length]; exact h
  rw [List.take_succ_eq_append_getElem hl]
  have := rowUp_get l j h
  rw [List.getD_eq_getElem?_getD, List.getElem?_eq_getElem hl] at this
  rw [← this]; rfl
/-- The rows, one behind the other, as slices in a row of their own; none lies in block B. -/
def LevRows (w : World) (B : Option Nat) (l : List ByteArray) (vs : List Value) (k : Nat) : Prop :=
  vs.length = k + 1 ∧ ∀ j, j ≤ k → ∃ b off c, vs[j]? = some (.slice (some ⟨b, off, none⟩) (rowN j l).length c) ∧ StrRow w (some ⟨b, off, none⟩) (rowN j l) ∧ b < w.heap.size ∧ B ≠ some b
theorem strRow_grown {w w' : World} {row : Option Nat} {b off : Nat} {l : List ByteArray} (h : StrRow w (some ⟨b, off, none⟩) l) (hg : w.grownBy w' row) (hb : b < w.heap.size) (hne : row ≠ some b) : StrRow w' (some ⟨b, off, none⟩) l := by
  rcases h with h | ⟨b2, o2, he, hl, hc⟩
  · exact .inl h
  · cases he
    exact .inr ⟨b, off, rfl, Nat.lt_of_lt_of_le hl hg.size, fun i hi => (hg.cell_far ⟨b, off + i, none⟩ hb (Ne.symm hne)).trans (hc i hi)⟩
theorem LevRows.below {w w' : World} {B : Option Nat} {l : List ByteArray} {vs : List Value} {k : Nat} (h : LevRows w B l vs k) (hb : Below w.heap.size w w') : LevRows w' B l vs k :=
  ⟨h.1, fun j hj => by
    obtain ⟨b, off, c, h1, h2, h3, h4⟩ := h.2 j hj
    exact ⟨b, off, c, h1, h2.below hb, Nat.lt_of_lt_of_le h3 hb.size, h4⟩⟩
end Go.Pal
namespace Go.Proofs.YtggfmnmopfdiaaaGreatDoor
open Go.RowKit Go.Pal

theorem slice_one (v : Value) (h : v.oneCell' = true) : ∀ u ∈ [v], u.oneCell' = true := by
  intro u hu
  obtain rfl : u = v := by simpa using hu
  exact h

set_option maxHeartbeats 2000000 in
set_option maxRecDepth 100000 in
theorem levels_any (w : World) (b0 off0 : Nat) (cap : Nat) (ss : List ByteArray) (H : Nat) (hH : H ≤ 4) (hlen : ss.length = 2 ^ H) (hss : StrRow w (some ⟨b0, off0, none⟩) ss) (hb0 : b0 < w.heap.size) (hsm : SmallL ss) :
    Calls Tryz.prog 59 #[.slice (some ⟨b0, off0, none⟩) ss.length cap] w fun e w' => (∃ v vs, e = .returned v ∧ w'.ownsRow w.heap.size 22 1 v (H + 1) vs ∧ LevRows w' v.ownBlock ss vs H) ∧ Below w.heap.size w w' := by
  obtain ⟨i0, hi0, hz0, hz1, hz2⟩ := info_parts (show (Tryz.prog.info? 9).map (fun i => (i.zero, i.size, i.bytes)) = some (some (.string ⟨#[]⟩), 1, 16) by kernel_rfl)
  obtain ⟨i1, hi1, hy0, hy1, hy2⟩ := info_parts (show (Tryz.prog.info? 22).map (fun i => (i.zero, i.size, i.bytes)) = some (some (.slice none 0 0), 1, 24) by kernel_rfl)
  have HN := Lib.hid (fun k hk => rowN_pow ss H k hlen hk)
  have HSM := Lib.hid (smallL_n ss hsm)
  have HSS := Lib.hid hss
  have hp := Nat.two_pow_pos H
  have HR0 : Hid (LevRows (w.alloc (.cells #[.slice (some ⟨b0, off0, none⟩) ss.length cap] 22)) (some w.heap.size) ss [.slice (some ⟨b0, off0, none⟩) ss.length cap] 0) := Lib.hid ⟨rfl, fun j hj => by
    obtain rfl : j = 0 := by omega
    exact ⟨b0, off0, cap, rfl, strRow_alloc hss _, by simp; omega, by simp; omega⟩⟩
  clear hss hsm hlen
  go_enter Tryz.func59, Tryz.ntmps59
  go_wp2
  go_loopw [0, 3] (fun v0 v3 wr => ∃ k : Nat, ∃ vs : List Value, ∃ b off c : Nat, k ≤ H ∧ v0 = .slice (some ⟨b, off, none⟩) (rowN k ss).length c ∧ StrRow wr (some ⟨b, off, none⟩) (rowN k ss) ∧ b < wr.heap.size ∧ wr.ownsRow w.heap.size 22 1 v3 (k + 1) vs ∧ LevRows wr v3.ownBlock ss vs k ∧ Below w.heap.size w wr) (fun v0 _ _ => sliceLen v0)
  case atStart => exact ⟨0, _, b0, off0, cap, by omega, rfl, strRow_alloc HSS.out _, by simp; omega, World.ownsRow_lit (base := w.heap.size) (e := 22) (size := 1) w #[.slice (some ⟨b0, off0, none⟩) ss.length cap] 1 (Nat.le_refl _) (by unfold maxLen; omega) rfl, HR0.out, (Below.refl _ _).alloc (Nat.le_refl _) _⟩
  case round =>
    clear HR0 HSS
    obtain ⟨k, vs, b, off, c, hk, rfl, hrow, hbl, hown, hrows, hb⟩ := hrel
    rename World => wi
    have hlk := HN.out k hk
    by_cases hlt : k < H
    · have h2 := pow_ge2 (H - k) (by omega)
      have h16 := pow_le16 (H - k) (by omega)
      have e2 : 2 ^ (H - k) = 2 * 2 ^ (H - (k + 1)) := by rw [show H - k = (H - (k + 1)) + 1 by omega, Nat.pow_succ]; omega
      have hl2 := rowUp_length (rowN k ss)
      have hnx : rowN (k + 1) ss = rowUp (rowN k ss) := rfl
      have htk := rowUp_take (rowN k ss)
      have hsm := HSM.out k
      generalize rowN k ss = R at *
      generalize hU : rowN (k + 1) ss = U at *
      rw [← hnx] at hl2 htk
      obtain ⟨n, hn⟩ : ∃ n, n = R.length / 2 := ⟨_, rfl⟩
      rw [← hn] at hl2 htk
      have hRn : R.length = 2 * n := by omega
      have hn1 : 0 < n := by omega
      have hn8 : n ≤ 8 := by omega
      have HU := Lib.hid hU
      have HTK := Lib.hid htk
      have HSMR := Lib.hid hsm
      have HROW := Lib.hid hrow
      have HOWN := Lib.hid hown
      have HROWS := Lib.hid hrows
      have HB := Lib.hid hb
      have hR1 : 1 < R.length := by omega
      have HL2 := Lib.hid hl2
      have HRN := Lib.hid hRn
      clear hU htk hsm hrow hown hrows hb hnx hlk h2 h16 e2 hl2 hn hRn
      have HR1 := Lib.hid hR1
      have hd1 : decide (1 < (R.length : Int)) = true := by simp; omega
      clear hR1
      go_wp2
      clear hd1
      go_loopw [4, 5] (fun v4 vi wq => ∃ j : Nat, j ≤ n ∧ vi = .int .i64 ((2 * j : Nat) : Int) ∧ wq.ownsRow wi.heap.size 9 1 v4 j ((U.take j).map strV) ∧ Below wi.heap.size wi wq) (fun _ vi _ => 2 * n - (intOf vi).toNat)
      case atStart => exact ⟨0, by omega, rfl, World.ownsRow_nil _ _ _ _, Below.refl _ _⟩
      case round =>
        obtain ⟨j, hj, rfl, hown4, hbq⟩ := hrel
        have hRn := HRN.out
        by_cases hjl : j < n
        · have htk := HTK.out j hjl
          rcases HROW.out with e0 | ⟨b', o', he, hbl', hc⟩
          · have hR1 := HR1.out; rw [e0] at hR1; simp at hR1
          cases he
          have k1 := hc (2 * j) (by omega)
          have k2 := hc (2 * j + 1) (by omega)
          have z1 := HSMR.out (2 * j)
          have z2 := HSMR.out (2 * j + 1)
          have q1 := (hbq.cell (p := ⟨b, off + 2 * j, none⟩) hbl).trans k1
          have q2 := (hbq.cell (p := ⟨b, off + (2 * j + 1), none⟩) hbl).trans k2
          generalize R.getD (2 * j) ByteArray.empty = X at *
          generalize R.getD (2 * j + 1) ByteArray.empty = Y at *
          have hpb : shaB ⟨(inputL 4 [X, Y]).toArray⟩ = pairB X Y := rfl
          have htot : totL [X, Y] ≤ 9000000 := by simp [totL]; omega
          have HRT := Lib.hid (fun (Wq : World) (hWq : Below wi.heap.size wi Wq) (hO : Wq.ownsRow wi.heap.size 9 1 u4 j ((U.take j).map strV)) aa cc h => (reftag_any Wq 4 aa cc [X, Y] h htot (by simp)).mono (fun e w' (h : e = .returned (.string (shaB ⟨(inputL 4 [X, Y]).toArray⟩)) ∧ Below Wq.heap.size Wq w') => (show e = .returned (.string (shaB ⟨(inputL 4 [X, Y]).toArray⟩)) ∧ Below wi.heap.size wi w' ∧ w'.ownsRow wi.heap.size 9 1 u4 j ((U.take j).map strV) from ⟨h.1, hWq.trans (h.2.mono hWq.size), hO.kept (Lib.grownBy_below (World.grownBy.refl _ none) h.2) (by cases h : Value.ownBlock _ <;> simp)⟩)))
          rw [hpb] at HRT
          generalize pairB X Y = Z at *
          have HO := Lib.hid hown4
          have HBQ := Lib.hid hbq
          have HTJ := Lib.hid htk
          have hj0 : (0 : Int) ≤ 2 * (j : Int) := by omega
          have hj1 : 2 * (j : Int) < (R.length : Int) := by omega
          have hj2 : (0 : Int) ≤ 2 * (j : Int) + 1 := by omega
          have hj3 : 2 * (j : Int) + 1 < (R.length : Int) := by omega
          have i4 : IntKind.i64.wrap (2 * (j : Int) + 1) = 2 * (j : Int) + 1 := by rw [IntKind.wrap_i64]; omega
          have i6 : (2 * (j : Int)).toNat = 2 * j := by omega
          have i7 : (2 * (j : Int) + 1).toNat = 2 * j + 1 := by omega
          have HC1 : Hid (j + 1 ≤ maxLen) := Lib.hid (by unfold maxLen; omega)
          have HC2 : Hid ((j + 1) * 16 ≤ 140737488355328) := Lib.hid (by omega)
          have hdr : Below wi.heap.size wi wr.drew := hbq.drew
          clear hown4 hc htk hpb htot hbq hRn HROW HOWN HROWS HSMR
          go_wp2
          go_region_held3 (fun w' => w'.cell? ⟨b, off + 2 * j, none⟩ = some (.string X) ∧ w'.cell? ⟨b, off + (2 * j + 1), none⟩ = some (.string Y))
            (first | exact ⟨(b7.cell (p := ⟨b, off + 2 * j, none⟩) hbl).trans k1, (b7.cell (p := ⟨b, off + (2 * j + 1), none⟩) hbl).trans k2⟩ | exact ⟨((b7.alloc b7.size _).cell (p := ⟨b, off + 2 * j, none⟩) hbl).trans k1, ((b7.alloc b7.size _).cell (p := ⟨b, off + (2 * j + 1), none⟩) hbl).trans k2⟩ | exact ⟨(b8.cell (p := ⟨b, off + 2 * j, none⟩) hbl).trans k1, (b8.cell (p := ⟨b, off + (2 * j + 1), none⟩) hbl).trans k2⟩ | exact ⟨(((HBQ.out.alloc HBQ.out.size _).drew).cell (p := ⟨b, off + 2 * j, none⟩) hbl).trans k1, (((HBQ.out.alloc HBQ.out.size _).drew).cell (p := ⟨b, off + (2 * j + 1), none⟩) hbl).trans k2⟩ | go_keep)
            (first | (go_at_call 35; refine (HRT.out _ ((HBQ.out.alloc HBQ.out.size _).drew) ((HO.out.alloc _).drew) _ _ (strs2t wr 9 X Y)).mono ?_; rintro e w7 ⟨rfl, b7, o7⟩) | (refine step_append_lies _ (by rfl) _ _ _ (by rfl) wi.heap.size 9 i0 (.string ⟨#[]⟩) 1 16 Tryz.underlying22 hi0 hz0 hz1 hz2 rfl (by omega) _ j _ (by rfl) (o7.alloc _) ⟨w7.heap.size, 0, none⟩ 1 1 [strV Z] (by rfl) (by rfl) (World.news_of_block (cs := #[strV Z]) (t := 9) (fr := (0, 0)) (heap_alloc_new w7 _)) (strV_one Z) (by omega) HC1.out HC2.out (by have := b7.size; simp; omega) (w7.heap.size + 1) (by simp) ?_; intro g8 cap8 w8 hown8 hg8 _ _; have b8 := (b7.alloc b7.size _).grown hg8 (by have := b7.size; simp; omega) (fun q hq => (o7.lt q hq).1)))
          have HO8 := Lib.hid hown8
          have HB8 := Lib.hid b8
          clear hown8 hg8 b8 o7 b7
          go_wp2
          go_roundw
          case rel => exact ⟨j + 1, by omega, by go_num, by rw [HTJ.out, List.map_append]; exact HO8.out, HB8.out⟩
          case measure => simp [intOf]; omega
        · obtain rfl : j = n := by omega
          rw [List.take_of_length_le (by rw [HL2.out]; omega)] at hown4
          obtain ⟨g, cp, rfl, hg1, hg2⟩ := hown4.form (by omega)
          have hv3 := HOWN.out
          have hr4 : StrRow wr (some ⟨g, 0, none⟩) U := .inr ⟨g, 0, rfl, hg2, fun q hq => by rw [Nat.zero_add, hown4.cellAt q (by have := HL2.out; omega), strs_get? U q hq]⟩
          have o3 := HOWN.out.kept (Lib.grownBy_below (World.grownBy.refl wi none) hbq) (by cases h : Value.ownBlock _ <;> simp)
          have rows3 := HROWS.out.below hbq
          have C3 := Lib.hid (HB.out.trans (hbq.mono HB.out.size))
          have hne3 : u3.ownBlock ≠ some g := fun e => by have := (HOWN.out.lt g e).2; omega
          have HO3 := Lib.hid o3
          have HR3 := Lib.hid rows3
          have HR4 := Lib.hid hr4
          have HG2 := Lib.hid hg2
          have HNE := Lib.hid hne3
          have HC1 : Hid (k + 1 + 1 ≤ maxLen) := Lib.hid (by unfold maxLen; omega)
          have HC2 : Hid ((k + 1 + 1) * 24 ≤ 140737488355328) := Lib.hid (by omega)
          have HC3 : Hid (∀ o : Obj, w.heap.size ≤ (wr.alloc o).heap.size) := Lib.hid (fun o => by have := C3.out.size; simp; omega)
          clear o3 rows3 hr4 hown4 hbq hv3 HOWN HROWS HROW hne3 hg1
          have hjl2 : ¬ 2 * j + 1 < R.length := by have := HRN.out; omega
          clear hjl
          go_wp2_with (at_builtin; refine wpList_append_lies _ rfl _ _ 101 rfl w.heap.size 22 i1 (.slice none 0 0) 1 24 Tryz.underlying101 hi1 hy0 hy1 hy2 rfl (by omega) _ (k + 1) _ rfl (HO3.out.alloc _) ⟨wr.heap.size, 0, none⟩ 1 1 [.slice (some ⟨g, 0, none⟩) j cp] rfl rfl (World.news_of_block (cs := #[.slice (some ⟨g, 0, none⟩) j cp]) (t := 22) (fr := (0, 0)) (heap_alloc_new wr _)) (slice_one _ rfl) (by omega) HC1.out HC2.out (HC3.out _) (wr.heap.size + 1) (by simp) ?_)
          intro g9 cap9 w9 hown9 hg9 hat9 hlt9
          have hsz9 := hg9.size
          have hwr : wr.heap.size < w9.heap.size := by simp at hsz9; omega
          have ne9 : ∀ q, u3.ownBlock ≠ some q → q < wr.heap.size → (Value.slice (some ⟨g9, 0, none⟩) (k + 1 + 1) cap9).ownBlock ≠ some q := by
            intro q h1 h2 h3
            have : g9 = q := by simpa [Value.ownBlock] using h3
            rcases hat9 with h | h
            · exact h1 (by rw [h, this])
            · omega
          have hrowsN : LevRows w9 (Value.slice (some ⟨g9, 0, none⟩) (k + 1 + 1) cap9).ownBlock ss (vs ++ [.slice (some ⟨g, 0, none⟩) j cp]) (k + 1) := by
            refine ⟨by rw [List.length_append, HR3.out.1]; rfl, fun q hq => ?_⟩
            by_cases hqk : q ≤ k
            · obtain ⟨bq, oq, cq, h1, h2, h3, h4⟩ := HR3.out.2 q hqk
              refine ⟨bq, oq, cq, ?_, strRow_grown (strRow_alloc h2 _) hg9 (by simp; omega) h4, Nat.lt_trans h3 hwr, ne9 bq h4 h3⟩
              rw [List.getElem?_append_left (by rw [HR3.out.1]; omega), h1]
            · obtain rfl : q = k + 1 := by omega
              refine ⟨g, 0, cp, ?_, ?_, Nat.lt_trans HG2.out hwr, ne9 g HNE.out HG2.out⟩
              · rw [List.getElem?_append_right (by rw [HR3.out.1]; omega), HR3.out.1, Nat.sub_self, HU.out, HL2.out]; rfl
              · rw [HU.out]; exact strRow_grown (strRow_alloc HR4.out _) hg9 (by have := HG2.out; simp; omega) HNE.out
          have C9 := Lib.hid ((C3.out.alloc C3.out.size _).grown hg9 (HC3.out _) (fun q hq => (HO3.out.lt q hq).1))
          have HO9 := Lib.hid hown9
          have HRN9 := Lib.hid hrowsN
          have HR9 := Lib.hid (strRow_grown (strRow_alloc HR4.out (.cells #[.slice (some ⟨g, 0, none⟩) j cp] 22)) hg9 (by have := HG2.out; simp; omega) HNE.out)
          have HG9 : Hid (g < w9.heap.size) := Lib.hid (Nat.lt_trans HG2.out hwr)
          have HUL : Hid (j < R.length) := Lib.hid (by have := HRN.out; omega)
          clear hown9 hg9 hat9 hlt9 hsz9 hwr ne9 hrowsN HO3 HR3 C3 HC1 HC2 HC3 HR4
          go_wp2
          go_roundw
          case rel => exact ⟨k + 1, _, g, 0, cp, by omega, by rw [HU.out, HL2.out], by rw [HU.out]; exact HR9.out, HG9.out, HO9.out, HRN9.out, C9.out⟩
          case measure => simp only [sliceLen]; exact HUL.out
    · obtain rfl : k = H := by omega
      rw [Nat.sub_self] at hlk
      have hl1 : (rowN k ss).length = 1 := hlk
      rw [hl1]
      have HB := Lib.hid hb
      have HO := Lib.hid hown
      have HR := Lib.hid hrows
      clear hb hl1 hlk hown hrow hrows
      go_wp2
      go_ret
      exact ⟨⟨_, _, rfl, HO.out, HR.out⟩, HB.out⟩

end Go.Proofs.YtggfmnmopfdiaaaGreatDoor
namespace Go.Pal
open Go.RowKit
theorem own_strs {w : World} {base : Nat} {t : TypeId} {v : Value} {n : Nat} {l : List ByteArray} (h : w.ownsRow base t 1 v n (l.map strV)) (hn : l.length = n) : ∃ a cap, v = .slice a l.length cap ∧ StrRow w a l := by
  subst hn
  rcases h.2 with ⟨rfl, h0⟩ | ⟨g, cap, cur, rfl, hb, hg, _⟩
  · exact ⟨none, 0, by rw [h0], .inl (List.eq_nil_of_length_eq_zero h0)⟩
  · refine ⟨some ⟨g, 0, none⟩, cap, rfl, .inr ⟨g, 0, rfl, (h.lt g rfl).2, fun i hi => ?_⟩⟩
    rw [Nat.zero_add, h.cellAt i (by omega), strs_get? l i hi]
theorem small_of_long (ps : List ByteArray) (h4 : ps.length ≤ 20) (h : ∀ i, i < 20 → (ps.getD i ByteArray.empty).size ≤ 300) : SmallL ps := by
  intro i
  by_cases hi : i < 20
  · have := h i hi; omega
  · rw [List.getD_eq_getElem?_getD, List.getElem?_eq_none (by omega)]
    show ByteArray.empty.size ≤ _; decide
theorem strRow_some {w : World} {a : Option Addr} {l : List ByteArray} (h : StrRow w a l) (h0 : 0 < l.length) : ∃ b off, a = some ⟨b, off, none⟩ ∧ b < w.heap.size := by
  rcases h with h | ⟨b, off, rfl, hbl, _⟩
  · rw [h] at h0; simp at h0
  · exact ⟨b, off, rfl, hbl⟩
theorem strRow_cell {w : World} {b off : Nat} {l : List ByteArray} (h : StrRow w (some ⟨b, off, none⟩) l) (i : Nat) (hi : i < l.length) : w.cell? ⟨b, off + i, none⟩ = some (.string (l.getD i ByteArray.empty)) := by
  rcases h with h | ⟨b2, o2, he, _, hc⟩
  · rw [h] at hi; simp at hi
  · cases he; exact hc i hi
end Go.Pal
namespace Go.Proofs.YtggfmnmopfdiaaaGreatDoor
open Go.RowKit Go.Pal

set_option maxHeartbeats 1000000 in
set_option maxRecDepth 100000 in
theorem refroot_any (w : World) (b0 off0 : Nat) (cap : Nat) (ss : List ByteArray) (H : Nat) (hH : H ≤ 4) (hlen : ss.length = 2 ^ H) (hss : StrRow w (some ⟨b0, off0, none⟩) ss) (hb0 : b0 < w.heap.size) (hsm : SmallL ss) :
    Calls Tryz.prog 30 #[.slice (some ⟨b0, off0, none⟩) ss.length cap] w fun e w' => e = .returned (.string ((rowN H ss).getD 0 ByteArray.empty)) ∧ Below w.heap.size w w' := by
  have HL := Lib.hid (levels_any w b0 off0 cap ss H hH hlen hss hb0 hsm)
  have hl1 : (rowN H ss).length = 1 := by rw [rowN_pow ss H H hlen (Nat.le_refl _), Nat.sub_self]
  have HL1 := Lib.hid hl1
  clear hss hlen hsm hl1
  go_enter Tryz.func30, Tryz.ntmps30
  go_wp2_with fail
  refine HL.out.mono ?_
  rintro e w1 ⟨⟨v, vs, rfl, hown, hrows⟩, b1⟩
  obtain ⟨g, cp, rfl, _, _⟩ := hown.form (by omega)
  obtain ⟨b, off, c, h1, h2, _, _⟩ := hrows.2 H (Nat.le_refl _)
  rw [HL1.out] at h1
  have c0 := (hown.cellAt H (by omega)).trans h1
  have c1 := strRow_cell h2 0 (by rw [HL1.out]; omega)
  rw [Nat.add_zero] at c1
  generalize hX : (rowN H ss).getD 0 ByteArray.empty = X at *
  have HX := Lib.hid hX
  have HB := Lib.hid b1
  clear hX b1 hown hrows h1 h2
  go_wp2
  go_ret
  rw [HX.out]
  exact ⟨rfl, HB.out⟩

set_option maxHeartbeats 1000000 in
set_option maxRecDepth 100000 in
theorem refpath_any (w : World) (b0 off0 : Nat) (cap : Nat) (ss : List ByteArray) (H i : Nat) (hH : H ≤ 4) (hlen : ss.length = 2 ^ H) (hi : i < 2 ^ H) (hss : StrRow w (some ⟨b0, off0, none⟩) ss) (hb0 : b0 < w.heap.size) (hsm : SmallL ss) :
    Calls Tryz.prog 36 #[.slice (some ⟨b0, off0, none⟩) ss.length cap, .int .i64 i] w fun e w' => (∃ a c, e = .returned (.slice a H c) ∧ StrRow w' a (pathTo ss i H)) ∧ Below w.heap.size w w' := by
  obtain ⟨i0, hi0, hz0, hz1, hz2⟩ := info_parts (show (Tryz.prog.info? 9).map (fun i => (i.zero, i.size, i.bytes)) = some (some (.string ⟨#[]⟩), 1, 16) by kernel_rfl)
  have HL := Lib.hid (levels_any w b0 off0 cap ss H hH hlen hss hb0 hsm)
  have HN := Lib.hid (fun k hk => rowN_pow ss H k hlen hk)
  have HDIV := Lib.hid (fun k hk => div_lt_pow i H k hi hk)
  have h16 := pow_le16 H hH
  have hi16 : i < 16 := by omega
  clear hss hlen hsm hi h16
  go_enter Tryz.func36, Tryz.ntmps36
  go_wp2_with fail
  refine HL.out.mono ?_
  rintro e w1 ⟨⟨v, vs, rfl, hown, hrows⟩, b1⟩
  obtain ⟨g, cp, rfl, _, _⟩ := hown.form (by omega)
  have HO := Lib.hid hown
  have HR := Lib.hid hrows
  have HB := Lib.hid b1
  clear hown hrows b1
  go_wp2
  go_loopw [1, 6, 7] (fun vi v6 vk wr => ∃ k q : Nat, k ≤ H ∧ vi = .int .i64 q ∧ q = i / 2 ^ k ∧ q ≤ i ∧ vk = .int .i64 k ∧ wr.ownsRow w1.heap.size 9 1 v6 k ((pathTo ss i k).map strV) ∧ Below w1.heap.size w1 wr) (fun _ _ vk _ => H - (intOf vk).toNat)
  case atStart => exact ⟨0, i, by omega, rfl, by simp, by omega, rfl, World.ownsRow_nil _ _ _ _, Below.refl _ _⟩
  case round =>
    obtain ⟨k, q, hk, rfl, hq, hqi, rfl, hown6, hb6⟩ := hrel
    by_cases hlt : k < H
    · have hlk := HN.out k hk
      have hdv := HDIV.out k hk
      rw [← hq] at hdv
      have e2 : 2 ^ (H - k) = 2 * 2 ^ (H - (k + 1)) := by rw [show H - k = (H - (k + 1)) + 1 by omega, Nat.pow_succ]; omega
      have hbs := beside_lt q (2 ^ (H - (k + 1))) (by omega)
      have hpt := pathTo_succ ss i k
      rw [← hq] at hpt
      have hqh : q / 2 = i / 2 ^ (k + 1) := by rw [half_step, ← hq]
      obtain ⟨b, off, c, h1, h2, h3, h4⟩ := HR.out.2 k hk
      have c0 := (hb6.cell (p := ⟨g, k, none⟩) (HO.out.lt g rfl).2).trans ((HO.out.cellAt k (by omega)).trans h1)
      have hbl2 : beside q < (rowN k ss).length := by omega
      have c1 := (hb6.cell (p := ⟨b, off + beside q, none⟩) h3).trans (strRow_cell h2 (beside q) hbl2)
      generalize rowN k ss = R at *
      generalize hX : R.getD (beside q) ByteArray.empty = X at *
      generalize hP : pathTo ss i k = Pk at *
      generalize hP2 : pathTo ss i (k + 1) = Pk2 at *
      have HPT := Lib.hid hpt
      have HP2 := Lib.hid hP2
      have HQ := Lib.hid hqh
      have HO6 := Lib.hid hown6
      have HB6 := Lib.hid hb6
      have HC1 : Hid (k + 1 ≤ maxLen) := Lib.hid (by unfold maxLen; omega)
      have HC2 : Hid ((k + 1) * 16 ≤ 140737488355328) := Lib.hid (by omega)
      have HC3 : Hid (∀ o : Obj, w1.heap.size ≤ (wr.alloc o).heap.size) := Lib.hid (fun o => by have := HB6.out.size; simp; omega)
      have hR16 : R.length ≤ 16 := by have := pow_le16 (H - k) (by omega); omega
      have hq16 : q < 16 := by omega
      clear hpt hP2 hqh hown6 hb6 h1 h2 h3 h4 hdv e2 hbs hX hP hq
      by_cases hpar : q % 2 = 0
      · have hbe : beside q = q + 1 := by unfold beside; rw [if_pos hpar]
        rw [hbe] at c1 hbl2
        have hp : ((q : Int) % 2 == 0) = true := by simp; omega
        clear hbe hpar
        go_wp2_with (at_builtin; refine wpList_append_lies _ rfl _ _ 22 rfl w1.heap.size 9 i0 (.string ⟨#[]⟩) 1 16 Tryz.underlying22 hi0 hz0 hz1 hz2 rfl (by omega) _ k _ rfl (HO6.out.alloc _) ⟨wr.heap.size, 0, none⟩ 1 1 [strV X] rfl rfl (World.news_of_block (cs := #[strV X]) (t := 9) (fr := (0, 0)) (heap_alloc_new wr _)) (strV_one X) (by omega) HC1.out HC2.out (HC3.out _) (wr.heap.size + 1) (by simp) ?_)
        intro g9 cap9 w9 hown9 hg9 _ _
        have B9 := Lib.hid ((HB6.out.alloc HB6.out.size _).grown hg9 (HC3.out _) (fun j hj => (HO6.out.lt j hj).1))
        have HO9 := Lib.hid hown9
        clear hown9 hg9 c0 c1
        go_wp2
        go_roundw
        case rel => exact ⟨k + 1, q / 2, by omega, by go_num, HQ.out, by omega, by go_num, by rw [HP2.out, HPT.out, List.map_append]; exact HO9.out, B9.out⟩
        case measure => simp [intOf]; omega
      · have hbe : beside q = q - 1 := by unfold beside; rw [if_neg hpar]
        rw [hbe] at c1 hbl2
        have hp : ((q : Int) % 2 == 0) = false := by simp; omega
        have hq1 : 1 ≤ q := by omega
        have hq2 : (1 : Int) ≤ (q : Int) := by omega
        clear hbe hpar
        go_wp2_with (at_builtin; refine wpList_append_lies _ rfl _ _ 22 rfl w1.heap.size 9 i0 (.string ⟨#[]⟩) 1 16 Tryz.underlying22 hi0 hz0 hz1 hz2 rfl (by omega) _ k _ rfl (HO6.out.alloc _) ⟨wr.heap.size, 0, none⟩ 1 1 [strV X] rfl rfl (World.news_of_block (cs := #[strV X]) (t := 9) (fr := (0, 0)) (heap_alloc_new wr _)) (strV_one X) (by omega) HC1.out HC2.out (HC3.out _) (wr.heap.size + 1) (by simp) ?_)
        intro g9 cap9 w9 hown9 hg9 _ _
        have B9 := Lib.hid ((HB6.out.alloc HB6.out.size _).grown hg9 (HC3.out _) (fun j hj => (HO6.out.lt j hj).1))
        have HO9 := Lib.hid hown9
        clear hown9 hg9 c0 c1
        go_wp2
        go_roundw
        case rel => exact ⟨k + 1, q / 2, by omega, by go_num, HQ.out, by omega, by go_num, by rw [HP2.out, HPT.out, List.map_append]; exact HO9.out, B9.out⟩
        case measure => simp [intOf]; omega
    · obtain rfl : k = H := by omega
      have hpl := pathTo_length ss i k
      obtain ⟨a2, c2, rfl, hrow⟩ := own_strs hown6 hpl
      have C9 := Lib.hid (HB.out.trans (hb6.mono HB.out.size))
      have HROW := Lib.hid hrow
      rw [hpl]
      clear hown6 hb6 hrow hpl hq
      go_wp2
      go_ret
      exact ⟨⟨_, _, rfl, HROW.out⟩, C9.out⟩


end Go.Proofs.YtggfmnmopfdiaaaGreatDoor
