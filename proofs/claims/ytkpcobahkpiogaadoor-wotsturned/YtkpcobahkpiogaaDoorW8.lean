/-
  The law's own clash; plain: a turned value that leads to the same public comes with two unlike texts of one digest.
-/
import Derived.Test.YtkpcobahkpiogaaDoorW7
import Derived.Test.YtkpcobahkpiogaaDoorM8
namespace Go.Proofs.YtkpcobahkpiogaaDoor
open Go.RowKit Go.Pal

theorem input1_inj (K x y : ByteArray) (hK : K.size ≤ 1000000) (hx : x.size ≤ 1000000) (hy : y.size ≤ 1000000) (h : (⟨(inputL 1 [K, x]).toArray⟩ : ByteArray) = ⟨(inputL 1 [K, y]).toArray⟩) : x = y := by
  have h1 : inputL 1 [K, x] = inputL 1 [K, y] := by
    have := congrArg (fun b : ByteArray => b.data.toList) h
    simpa using this
  unfold inputL at h1
  have h2 := ShaApart.flat_inj [K, x] [K, y] (by
    intro p hp
    simp only [List.mem_cons, List.not_mem_nil, or_false] at hp
    rcases hp with rfl | rfl <;> omega) (by
    intro p hp
    simp only [List.mem_cons, List.not_mem_nil, or_false] at hp
    rcases hp with rfl | rfl <;> omega) (List.cons.inj h1).2
  exact (List.cons.inj (List.cons.inj h2).2).1
theorem input3_inj (l m : List ByteArray) (hl : SmallL l) (hm : SmallL m) (h : (⟨(inputL 3 l).toArray⟩ : ByteArray) = ⟨(inputL 3 m).toArray⟩) : l = m := by
  have h1 : inputL 3 l = inputL 3 m := by
    have := congrArg (fun b : ByteArray => b.data.toList) h
    simpa using this
  unfold inputL at h1
  have small : ∀ l : List ByteArray, SmallL l → ∀ p ∈ l, p.size < 4294967296 := by
    intro l hl p hp
    obtain ⟨i, hi, rfl⟩ := List.getElem_of_mem hp
    have := hl i
    rw [List.getD_eq_getElem?_getD, List.getElem?_eq_getElem hi] at this
    simp at this; omega
  exact ShaApart.flat_inj l m (small l hl) (small m hm) (List.cons.inj h1).2

theorem chain_clash (k : Nat) (hk : k < 256) (v x : ByteArray) (hv : v.size ≤ 1000000) (hx : x.size ≤ 1000000) (hne : v ≠ x) : ∀ n, chainB (k : Int) v n = chainB (k : Int) x n → ∃ j, j < n ∧ (⟨(inputL 1 [be 1 k, chainB (k : Int) v j]).toArray⟩ : ByteArray) ≠ ⟨(inputL 1 [be 1 k, chainB (k : Int) x j]).toArray⟩ ∧ shaB ⟨(inputL 1 [be 1 k, chainB (k : Int) v j]).toArray⟩ = shaB ⟨(inputL 1 [be 1 k, chainB (k : Int) x j]).toArray⟩
  | 0, h => absurd h hne
  | n + 1, h => by
    by_cases he : chainB (k : Int) v n = chainB (k : Int) x n
    · obtain ⟨j, h1, h2⟩ := chain_clash k hk v x hv hx hne n he
      exact ⟨j, by omega, h2⟩
    · refine ⟨n, by omega, fun hs => he (input1_inj _ _ _ (by rw [be_size]; omega) (chainB_size _ _ hv n) (chainB_size _ _ hx n) hs), ?_⟩
      have e : ((k : Int) % 256).toNat = k := by omega
      rw [chainB, chainB, stepB, stepB, e] at h
      exact h

theorem turn_clash (dl : List Nat) (vs : List ByteArray) (k : Nat) (x : ByteArray) (hk : k < 67) (hlen : vs.length = 67) (hs : SmallL vs) (hx : x.size ≤ 1000000) (hne : vs.getD k ByteArray.empty ≠ x)
    (h : recoverB dl vs = recoverB dl (vs.set k x)) : ∃ a b, a ∈ roadR dl vs 67 ++ [⟨(inputL 3 (walkL vs fun k => 15 - dl.getD k 0)).toArray⟩] ∧ b ∈ roadR dl (vs.set k x) 67 ++ [⟨(inputL 3 (walkL (vs.set k x) fun k => 15 - dl.getD k 0)).toArray⟩] ∧ a ≠ b ∧ shaB a = shaB b := by
  by_cases hi : (⟨(inputL 3 (walkL vs fun k => 15 - dl.getD k 0)).toArray⟩ : ByteArray) = ⟨(inputL 3 (walkL (vs.set k x) fun k => 15 - dl.getD k 0)).toArray⟩
  · have hE := input3_inj _ _ (fun i => walkL_le _ _ 1000000 (by omega) hs i) (fun i => walkL_le _ _ 1000000 (by omega) (small_set vs k x hs hx) i) hi
    have g1 := walkL_get vs (fun k => 15 - dl.getD k 0) k (by omega)
    have g2 := walkL_get (vs.set k x) (fun k => 15 - dl.getD k 0) k (by rw [List.length_set]; omega)
    have ex : (vs.set k x).getD k ByteArray.empty = x := by
      rw [List.getD_eq_getElem?_getD, List.getElem?_set_self (by omega)]; rfl
    rw [ex] at g2
    rw [← hE, g1] at g2
    obtain ⟨j, hj, h1, h2⟩ := chain_clash k (by omega) _ x (hs k) hx hne _ g2
    refine ⟨_, _, List.mem_append_left _ ?_, List.mem_append_left _ ?_, h1, h2⟩
    · exact List.mem_flatMap.2 ⟨k, List.mem_range.2 hk, List.mem_map.2 ⟨j, List.mem_range.2 hj, rfl⟩⟩
    · exact List.mem_flatMap.2 ⟨k, List.mem_range.2 hk, List.mem_map.2 ⟨j, List.mem_range.2 hj, by rw [ex]⟩⟩
  · exact ⟨_, _, List.mem_append_right _ (List.mem_singleton.2 rfl), List.mem_append_right _ (List.mem_singleton.2 rfl), hi, h⟩

set_option maxHeartbeats 2000000 in
set_option maxRecDepth 100000 in
theorem clash_true (w : World) (b off cap : Nat) (l : List ByteArray) (hl : l.length ≤ 5000) (hr : StrRow w (some ⟨b, off, none⟩) l) (hsz : ∀ i, (l.getD i ByteArray.empty).size ≤ 9000000)
    (hex : ∃ i j, j < i ∧ i < l.length ∧ l.getD i ByteArray.empty ≠ l.getD j ByteArray.empty ∧ shaB (l.getD i ByteArray.empty) = shaB (l.getD j ByteArray.empty)) :
    Calls Tryd.prog 50 #[.slice (some ⟨b, off, none⟩) l.length cap] w fun e w' => e = .returned (.bool true) ∧ Below w.heap.size w w' := by
  have hm := makeS l.length (by omega) w
  have HR := Lib.hid hr
  have HSZ := Lib.hid hsz
  have HEX := Lib.hid hex
  have hUl : ((l.map shaB).map strV).length = l.length := by simp
  have hgU : ∀ k, k < l.length → ((l.map shaB).map strV)[k]? = some (.string (shaB (l.getD k ByteArray.empty))) := by
    intro k hk
    simp [hk, strV]
  obtain ⟨U, hU⟩ : ∃ U, U = (l.map shaB).map strV := ⟨_, rfl⟩
  rw [← hU] at hUl hgU
  obtain ⟨Z, hZ⟩ : ∃ Z, Z = List.replicate l.length (Value.string ⟨#[]⟩) := ⟨_, rfl⟩
  rw [← hZ] at hm
  have HUL := Lib.hid hUl
  have HGU := Lib.hid hgU
  have HZL := Lib.hid (show Z.length = l.length by rw [hZ]; simp)
  have HZG := Lib.hid (fun k (hk : k < l.length) => (show Z[k]? = some (.string ⟨#[]⟩) by rw [hZ, List.getElem?_replicate, if_pos hk]))
  clear hr hsz hex hUl hgU hU hZ
  go_enter Tryd.func50, Tryd.ntmps50
  go_wp2
  go_loopw [4] (fun i wr => ∃ k : Nat, k ≤ l.length ∧ i = .int .i64 k ∧ Blk wr w.heap.size 9 (partL U Z k) ∧ Below w.heap.size w wr) (fun i _ => l.length - (intOf i).toNat)
  case atStart => exact ⟨0, by omega, rfl, by rw [partL_zero]; exact Blk.new' _ _ _ rfl, (Below.refl _ _).alloc (Nat.le_refl _) _⟩
  case round =>
    clear hm
    obtain ⟨k, hk, rfl, hB, hb⟩ := hrel
    have hUl := HUL.out
    have hZl := HZL.out
    by_cases hlt : k < l.length
    · have d0 := (hB.cell k).trans ((partL_get _ _ k (by omega)).trans (HZG.out k hlt))
      have f0 := hB.frozen k
      have hlt2 := hB.lt
      have ck := strRow_cell (HR.out.below hb) k hlt
      have hgk := HGU.out k hlt
      have hzk := HSZ.out k
      generalize l.getD k ByteArray.empty = y at *
      have hset : ∀ w' : World, Below wr.heap.size wr w' → Blk (w'.setCell ⟨w.heap.size, k, none⟩ (.string (shaB y))) w.heap.size 9 (partL U Z (k + 1)) := by
        intro w' hb'
        have h2 := (hB.below hb' hlt2).set k (U[k]'(by omega))
        rw [partL_set _ _ k (by omega) (by omega), (List.getElem_eq_iff _).2 hgk] at h2
        exact h2
      have hbset : ∀ (z : ByteArray) (w' : World), Below wr.heap.size wr w' → Below w.heap.size w (w'.setCell ⟨w.heap.size, k, none⟩ (.string z)) := fun z w' hb' => (hb.trans (hb'.mono hb.size)).setCell (p := ⟨w.heap.size, k, none⟩) (Nat.le_refl _) _
      have HSET := Lib.hid hset
      have HBS := Lib.hid hbset
      have HRS := Lib.hid (refsum_any wr y (by omega))
      generalize shaB y = z at *
      clear hset hbset hgk hB hb hUl hZl
      go_wp2_with fail
      refine HRS.out.mono ?_
      rintro e w1 ⟨rfl, b1⟩
      have d1 := (b1.cell (p := ⟨w.heap.size, k, none⟩) hlt2).trans d0
      have f1 := (b1.frozen (p := ⟨w.heap.size, k, none⟩) hlt2).trans f0
      have B1 := Lib.hid b1
      clear b1
      go_wp2
      go_roundw
      case rel => exact ⟨k + 1, by omega, by go_num, HSET.out _ B1.out, HBS.out _ _ B1.out⟩
      case measure => simp [intOf]; omega
    · obtain rfl : k = l.length := by omega
      have hall := partL_all U Z (by omega)
      rw [hUl] at hall
      rw [hall] at hB
      have HBL := Lib.hid hB
      have HB := Lib.hid hb
      have HRW := Lib.hid (HR.out.below hb)
      clear hB hb hall hUl hZl hlt hk
      rename World => ws
      go_wp2
      go_loopw [5] (fun vi wr => ∃ i : Nat, i ≤ l.length ∧ vi = .int .i64 i ∧ (∀ p q, q < p → p < i → ¬ (l.getD p ByteArray.empty ≠ l.getD q ByteArray.empty ∧ shaB (l.getD p ByteArray.empty) = shaB (l.getD q ByteArray.empty))) ∧ Same ws wr) (fun vi _ => l.length - (intOf vi).toNat)
      case atStart => exact ⟨0, by omega, rfl, fun p q _ h => by omega, Same.refl _⟩
      case round =>
        obtain ⟨i, hi, rfl, hall, hs⟩ := hrel
        have HALL := Lib.hid hall
        have HS0 := Lib.hid hs
        clear hall hs
        by_cases hil : i < l.length
        · rename World => wi
          go_wp2
          go_loopw [6] (fun vk wr => ∃ k : Nat, k ≤ i ∧ vk = .int .i64 k ∧ (∀ q, q < k → ¬ (l.getD i ByteArray.empty ≠ l.getD q ByteArray.empty ∧ shaB (l.getD i ByteArray.empty) = shaB (l.getD q ByteArray.empty))) ∧ Same ws wr) (fun vk _ => i - (intOf vk).toNat)
          case atStart => exact ⟨0, by omega, rfl, fun q h => by omega, HS0.out⟩
          case round =>
            obtain ⟨k, hk, rfl, hin, hs⟩ := hrel
            have HIN := Lib.hid hin
            have HS := Lib.hid hs
            by_cases hki : k < i
            · have c1 := (hs.cell _).trans ((HBL.out.cell i).trans (HGU.out i hil))
              have c2 := (hs.cell _).trans ((HBL.out.cell k).trans (HGU.out k (by omega)))
              have c3 := (hs.cell _).trans (strRow_cell HRW.out i hil)
              have c4 := (hs.cell _).trans (strRow_cell HRW.out k (by omega))
              have hkl : k < l.length := by omega
              clear hin hs HBL HRW
              generalize hX : l.getD i ByteArray.empty = X at *
              generalize hY : l.getD k ByteArray.empty = Y at *
              generalize hDX : shaB X = DX at *
              generalize hDY : shaB Y = DY at *
              have HX := Lib.hid hX
              have HY := Lib.hid hY
              have HDX := Lib.hid hDX
              have HDY := Lib.hid hDY
              clear hX hY hDX hDY
              have hnext : ∀ (q : Nat), q < k + 1 → (X = Y ∨ DX ≠ DY) → ¬ (X ≠ l.getD q ByteArray.empty ∧ DX = shaB (l.getD q ByteArray.empty)) := by
                intro q hq hor hc
                by_cases hqk : q = k
                · subst hqk
                  rw [HY.out, HDY.out] at hc
                  rcases hor with h | h
                  · exact hc.1 h
                  · exact h hc.2
                · exact HIN.out q (by omega) hc
              have HNX := Lib.hid hnext
              clear hnext
              by_cases hd : DX = DY
              · by_cases hxy : X = Y
                · subst hd hxy
                  go_wp2
                  go_quiet (fail)
                  go_wp2
                  go_roundw
                  case rel => exact ⟨k + 1, by omega, by go_num, fun q hq => HNX.out q hq (by first | exact .inl rfl | simp), HS.out.drewN _⟩
                  case measure => simp [intOf]; omega
                · subst hd
                  have hn := beqF hxy
                  go_wp2
                  go_quiet (fail)
                  go_wp2
                  go_ret
                  exact ⟨rfl, HB.out.trans ((HS.out.drewN _).below _)⟩
              · have hn := beqF hd
                have HDD := Lib.hid hd
                clear hd
                go_wp2
                go_quiet (fail)
                go_wp2
                go_roundw
                case rel => exact ⟨k + 1, by omega, by go_num, fun q hq => HNX.out q hq (by first | exact .inr HDD.out | (simp; exact HDD.out)), HS.out.drewN _⟩
                case measure => simp [intOf]; omega
            · obtain rfl : k = i := by omega
              clear hin hs hki hk
              go_wp2
              go_roundw
              case rel =>
                refine ⟨k + 1, by omega, by go_num, fun p q h1 h2 => ?_, HS.out⟩
                by_cases hp : p = k
                · subst hp; exact HIN.out q h1
                · exact HALL.out p q h1 (by omega)
              case measure => simp [intOf]; omega
        · exfalso
          obtain rfl : i = l.length := by omega
          obtain ⟨p, q, h1, h2, h3⟩ := HEX.out
          exact HALL.out p q h1 h2 h3
end Go.Proofs.YtkpcobahkpiogaaDoor
