/-
  The document's own: Sorted.
-/
import Derived.Test.YtabongfoeoideaaRf0
namespace Go.Pal
open Go.RowKit Go.Pal.Dk
/-- A place laid free at k. -/
def gapL (l : List ByteArray) (k : Nat) (y : ByteArray) : List ByteArray := l.take k ++ y :: l.drop k
theorem gap_length (l : List ByteArray) (k : Nat) (y : ByteArray) : (gapL l k y).length = l.length + 1 := by
  unfold gapL; simp only [List.length_append, List.length_cons, List.length_take, List.length_drop]; omega
theorem gap_end (l : List ByteArray) (y : ByteArray) : gapL l l.length y = l ++ [y] := by unfold gapL; simp
theorem gap_prev {l : List ByteArray} {k : Nat} (hk : k < l.length) (y : ByteArray) : (gapL l (k + 1) y)[k]? = some l[k] := by
  unfold gapL; rw [List.getElem?_append_left (by simp; omega), List.getElem?_take_of_lt (by omega), List.getElem?_eq_getElem hk]
theorem gap_step {l : List ByteArray} {k : Nat} (hk : k < l.length) (y : ByteArray) : (gapL l (k + 1) y).set (k + 1) l[k] = gapL l k l[k] := by
  unfold gapL
  rw [List.set_append_right _ _ (by simp; omega)]
  have e1 : k + 1 - (l.take (k + 1)).length = 0 := by rw [List.length_take]; omega
  rw [e1, List.set_cons_zero, List.take_succ_eq_append_getElem hk, List.append_assoc, List.drop_eq_getElem_cons hk]
  rfl
theorem gap_set {l : List ByteArray} {k : Nat} (hk : k ≤ l.length) (y x : ByteArray) : (gapL l k y).set k x = gapL l k x := by
  unfold gapL
  rw [List.set_append_right _ _ (by simp; omega)]
  have e1 : k - (l.take k).length = 0 := by rw [List.length_take]; omega
  rw [e1, List.set_cons_zero]
theorem gap_ins (l : List ByteArray) (x : ByteArray) : gapL l (placeR x l) x = insR x l := rfl
end Go.Pal
namespace Go.Proofs.Ytabongfoeoideaa
open Go.RowKit Go.Pal Go.Pal.Dk Go.Sort
set_option linter.unusedVariables false

set_option maxHeartbeats 2000000 in
set_option maxRecDepth 100000 in
theorem rsorted_any {w : World} {a : Option Addr} {cap : Nat} {l : List ByteArray} (h : StrRow w a l) (hl : l.length ≤ 1000000) :
    Calls Try.prog 31 #[.slice a l.length cap] w fun e w' => ∃ v, e = .returned v ∧ w'.ownsRow w.heap.size 9 1 v (riseL l).length ((riseL l).map Value.string) ∧ Below w.heap.size w w' := by
  have HR := Lib.hid (fun h0 => sRow_some h h0)
  obtain ⟨i0, hi0, hz0, hz1, hz2⟩ := info_parts (show (Try.prog.info? 9).map (fun i => (i.zero, i.size, i.bytes)) = some (some (.string ⟨#[]⟩), 1, 16) by kernel_rfl)
  have I0 := Lib.hid hi0
  have Z0 := Lib.hid hz0
  have Z1 := Lib.hid hz1
  have Z2 := Lib.hid hz2
  have HS := Lib.hid (fun k (hk : k < l.length) => show riseL (l.take (k + 1)) = addR (riseL (l.take k)) l[k] by rw [List.take_succ_eq_append_getElem hk, rise_snoc])
  have HLE := Lib.hid (fun k => show (riseL (l.take k)).length ≤ k from Nat.le_trans (rise_le _) (List.length_take_le _ _))
  clear h hi0 hz0 hz1 hz2
  go_enter Try.func31, Try.ntmps31
  go_wp2
  go_loopw [3, 4] (fun v3 j wr => ∃ k : Nat, k ≤ l.length ∧ j = .int .i64 k ∧ wr.ownsRow w.heap.size 9 1 v3 (riseL (l.take k)).length ((riseL (l.take k)).map Value.string) ∧ Below w.heap.size w wr) (fun _ j _ => l.length - (intOf j).toNat)
  case atStart => exact ⟨0, Nat.zero_le _, rfl, World.ownsRow_nil _ _ _ _, Below.refl _ _⟩
  case round =>
    obtain ⟨k, hk, rfl, ho, hb⟩ := hrel
    obtain ⟨p, c3, rfl, h31, h32, hp⟩ := rowS_form ho
    have HO := Lib.hid ho
    have HB := Lib.hid hb
    by_cases hlt : k < l.length
    · obtain ⟨b1, o1, rfl, hb1, hc1⟩ := HR.out (by omega)
      have ck := (hb.cell (p := ⟨b1, o1 + k, none⟩) hb1).trans (hc1 k hlt)
      have HSK := Lib.hid (HS.out k hlt)
      have hle := HLE.out k
      have HCX := Lib.hid (show ∀ w', Below w.heap.size w w' → w'.cell? ⟨b1, o1 + k, none⟩ = some (.string l[k]) from fun w' hb' => (hb'.cell (p := ⟨b1, o1 + k, none⟩) hb1).trans (hc1 k hlt))
      clear hc1 ho hb
      generalize l[k] = x at *
      generalize riseL (l.take k) = out at *
      have HST := Lib.hid (own_str HO.out).2
      have hol : out.length ≤ maxLen := by unfold maxLen; omega
      cases hm : memB out x with
      | true =>
        have HRE := Lib.hid (show riseL (l.take (k + 1)) = out by rw [HSK.out]; unfold addR; rw [hm]; rfl)
        have HH := Lib.hid (rhas_any (cap := c3) HST.out hol x)
        rw [hm] at HH
        go_wp2_with (go_at_call 28; refine HH.out.mono ?_; rintro e w1 ⟨rfl, rfl⟩)
        go_roundw
        case rel => exact ⟨k + 1, by omega, by go_num, by rw [HRE.out]; exact HO.out, HB.out⟩
        case measure => simp [intOf]; omega
      | false =>
        have HRE := Lib.hid (show riseL (l.take (k + 1)) = insR x out by rw [HSK.out]; unfold addR; rw [hm]; rfl)
        have HH := Lib.hid (rhas_any (cap := c3) HST.out hol x)
        rw [hm] at HH
        have HPL := Lib.hid (placeR_lo x out)
        have HPA := Lib.hid (placeR_at x out)
        have hpl := placeR_le x out
        have HP := Lib.hid hp
        have HINS := Lib.hid (gap_ins out x)
        clear hm hp
        generalize placeR x out = at_ at *
        go_wp2_with (go_at_call 28; refine HH.out.mono ?_; rintro e w1 ⟨rfl, rfl⟩)
        go_loopw [5] (fun j wr => ∃ i : Nat, i ≤ at_ ∧ j = .int .i64 i ∧ wr.ownsRow w.heap.size 9 1 (.slice p out.length c3) out.length (out.map Value.string) ∧ Below w.heap.size w wr) (fun j _ => at_ - (intOf j).toNat)
        case atStart => exact ⟨0, Nat.zero_le _, rfl, HO.out, HB.out⟩
        case round =>
          obtain ⟨i, hi, rfl, ho2, hb2⟩ := hrel
          have HO2 := Lib.hid ho2
          have HB2 := Lib.hid hb2
          have cx := HCX.out _ hb2
          by_cases hlt2 : i < at_
          · obtain ⟨g, rfl⟩ := HP.out (by omega)
            have ci := (ownS_cell ho2 i (by omega)).1
            rw [List.getElem?_map, List.getElem?_eq_getElem (by omega)] at ci
            have hlss := r_less (HPL.out i (by omega) hlt2)
            have i1 : i < out.length := by omega
            clear ho2 hb2
            generalize out[i] = y at *
            simp only [Option.map_some] at ci
            go_wp2
            go_quiet (fail)
            go_wp2
            go_roundw
            case rel => exact ⟨i + 1, by omega, by go_num, HO2.out, below_drewN HB2.out _⟩
            case measure => simp [intOf]; omega
          · obtain rfl : i = at_ := by omega
            by_cases hend : i < out.length
            · obtain ⟨g, rfl⟩ := HP.out (by omega)
              have ci := (ownS_cell ho2 i (by omega)).1
              rw [List.getElem?_map, List.getElem?_eq_getElem hend] at ci
              have hlss := r_not_less (HPA.out hend)
              clear ho2 hb2
              generalize out[i] = y at *
              simp only [Option.map_some] at ci
              go_wp2
              go_quiet (fail)
              have HO4 := Lib.hid (own_kept HO2.out (w' := wr.drewN nq) (fun _ _ => rfl))
              have HB4 := Lib.hid (below_drewN HB2.out nq)
              generalize wr.drewN nq = wq at *
              have H1 := Lib.hid (show out.length + 1 ≤ maxLen by unfold maxLen; omega)
              have H2 := Lib.hid (show (out.length + 1) * 16 ≤ 140737488355328 by omega)
              go_wp2_with (at_builtin; refine wpList_append_own _ rfl _ _ 30 rfl w.heap.size 9 i0 (.string ⟨#[]⟩) 1 16 Try.underlying30 I0.out Z0.out Z1.out Z2.out rfl (by decide) _ out.length (out.map Value.string) rfl (HO4.out.alloc _) ⟨wq.heap.size, 0, none⟩ 1 1 [.string ⟨#[]⟩] rfl rfl (one_new wq 9 ⟨#[]⟩) (one_str1 _) H1.out H2.out (by have := HB4.out.size; simp; omega) ?_; intro v9 w9 ho9 hg9 _; have HB9 := Lib.hid ((HB4.out.alloc HB4.out.size (.cells #[.string ⟨#[]⟩] 9)).grown hg9 (by have := HB4.out.size; simp; omega) (fun j hj => (own_lt HO4.out hj).2.1)); obtain ⟨p9, c9, rfl, h91, h92, hp9⟩ := rowS_form ho9; obtain ⟨g9, rfl⟩ := hp9 (by omega); have HO9 := Lib.hid (show w9.ownsRow w.heap.size 9 1 (.slice (some ⟨g9, 0, none⟩) (out.length + 1) c9) (out.length + 1) ((gapL out out.length ⟨#[]⟩).map Value.string) by rw [gap_end, List.map_append]; exact ho9); clear ho9 hg9 hp9)
              have HGB := Lib.hid (own_lt HO9.out (g := g9) rfl).2.1
              have HPREV := Lib.hid (fun kk (hk : kk < out.length) y => gap_prev (l := out) hk y)
              have HSTEP := Lib.hid (fun kk (hk : kk < out.length) y => gap_step (l := out) hk y)
              have HSET := Lib.hid (fun y => gap_set (l := out) (k := i) (by omega) y x)
              go_loopw [6] (fun j wr => ∃ (kk : Nat) (y : ByteArray), i ≤ kk ∧ kk ≤ out.length ∧ j = .int .i64 kk ∧ wr.ownsRow w.heap.size 9 1 (.slice (some ⟨g9, 0, none⟩) (out.length + 1) c9) (out.length + 1) ((gapL out kk y).map Value.string) ∧ Below w.heap.size w wr) (fun j _ => (intOf j).toNat)
              case atStart => exact ⟨out.length, ⟨#[]⟩, by omega, Nat.le_refl _, by go_num, HO9.out, HB9.out⟩
              case round =>
                obtain ⟨kk, y, hk1, hk2, rfl, ho5, hb5⟩ := hrel
                have HO5 := Lib.hid ho5
                have HB5 := Lib.hid hb5
                by_cases hlt3 : i < kk
                · obtain ⟨j, rfl⟩ : ∃ j, kk = j + 1 := ⟨kk - 1, by omega⟩
                  have cj := (ownS_cell ho5 j (by omega)).1
                  rw [List.getElem?_map, HPREV.out j (by omega)] at cj
                  have cj1 := (ownS_cell ho5 (j + 1) (by omega))
                  have fj := cj1.2
                  have hget : ∃ z, wr.cell? ⟨g9, j + 1, none⟩ = some z := by
                    rw [cj1.1]
                    exact ⟨_, List.getElem?_eq_getElem (by rw [List.length_map, gap_length]; omega)⟩
                  obtain ⟨z, hz⟩ := hget
                  have HN := Lib.hid (ownS_set ho5 (j + 1) (.string (out[j]'(by omega))))
                  have HST2 := Lib.hid (show ((gapL out (j + 1) y).map Value.string).set (j + 1) (.string (out[j]'(by omega))) = (gapL out j (out[j]'(by omega))).map Value.string by rw [← List.map_set, HSTEP.out j (by omega)])
                  have HBN := Lib.hid (fun v => hb5.setCell (p := ⟨g9, j + 1, none⟩) HGB.out v)
                  clear ho5 hb5 cj1
                  generalize out[j]'(by omega) = zz at *
                  simp only [Option.map_some] at cj
                  go_wp2
                  go_roundw
                  case rel => exact ⟨j, zz, by omega, by omega, by go_num, by rw [← HST2.out]; exact HN.out, HBN.out _⟩
                  case measure => first | (simp [intOf]; done) | (simp [intOf]; omega)
                · obtain rfl : kk = i := by omega
                  have cx2 := HCX.out _ hb5
                  have ca := (ownS_cell ho5 kk (by omega))
                  have fa := ca.2
                  obtain ⟨z, hz⟩ : ∃ z, wr.cell? ⟨g9, kk, none⟩ = some z := by
                    rw [ca.1]
                    exact ⟨_, List.getElem?_eq_getElem (by rw [List.length_map, gap_length]; omega)⟩
                  have HN := Lib.hid (ownS_set ho5 kk (.string x))
                  have HST2 := Lib.hid (show ((gapL out kk y).map Value.string).set kk (.string x) = (insR x out).map Value.string by rw [← List.map_set, HSET.out, HINS.out])
                  have HBN := Lib.hid (fun v => hb5.setCell (p := ⟨g9, kk, none⟩) HGB.out v)
                  have HIL := Lib.hid (show (insR x out).length = out.length + 1 by rw [← HINS.out, gap_length])
                  clear ho5 hb5 ca
                  go_wp2
                  go_roundw
                  case rel => exact ⟨k + 1, by omega, by go_num, by rw [HRE.out, HIL.out, ← HST2.out]; exact HN.out, HBN.out _⟩
                  case measure => simp [intOf]; omega
            · clear ho2 hb2
              go_wp2
              go_quiet (fail)
              have HO4 := Lib.hid (own_kept HO2.out (w' := wr.drewN nq) (fun _ _ => rfl))
              have HB4 := Lib.hid (below_drewN HB2.out nq)
              generalize wr.drewN nq = wq at *
              have H1 := Lib.hid (show out.length + 1 ≤ maxLen by unfold maxLen; omega)
              have H2 := Lib.hid (show (out.length + 1) * 16 ≤ 140737488355328 by omega)
              go_wp2_with (at_builtin; refine wpList_append_own _ rfl _ _ 30 rfl w.heap.size 9 i0 (.string ⟨#[]⟩) 1 16 Try.underlying30 I0.out Z0.out Z1.out Z2.out rfl (by decide) _ out.length (out.map Value.string) rfl (HO4.out.alloc _) ⟨wq.heap.size, 0, none⟩ 1 1 [.string ⟨#[]⟩] rfl rfl (one_new wq 9 ⟨#[]⟩) (one_str1 _) H1.out H2.out (by have := HB4.out.size; simp; omega) ?_; intro v9 w9 ho9 hg9 _; have HB9 := Lib.hid ((HB4.out.alloc HB4.out.size (.cells #[.string ⟨#[]⟩] 9)).grown hg9 (by have := HB4.out.size; simp; omega) (fun j hj => (own_lt HO4.out hj).2.1)); obtain ⟨p9, c9, rfl, h91, h92, hp9⟩ := rowS_form ho9; obtain ⟨g9, rfl⟩ := hp9 (by omega); have HO9 := Lib.hid (show w9.ownsRow w.heap.size 9 1 (.slice (some ⟨g9, 0, none⟩) (out.length + 1) c9) (out.length + 1) ((gapL out out.length ⟨#[]⟩).map Value.string) by rw [gap_end, List.map_append]; exact ho9); clear ho9 hg9 hp9)
              have HGB := Lib.hid (own_lt HO9.out (g := g9) rfl).2.1
              have HPREV := Lib.hid (fun kk (hk : kk < out.length) y => gap_prev (l := out) hk y)
              have HSTEP := Lib.hid (fun kk (hk : kk < out.length) y => gap_step (l := out) hk y)
              have HSET := Lib.hid (fun y => gap_set (l := out) (k := i) (by omega) y x)
              go_loopw [6] (fun j wr => ∃ (kk : Nat) (y : ByteArray), i ≤ kk ∧ kk ≤ out.length ∧ j = .int .i64 kk ∧ wr.ownsRow w.heap.size 9 1 (.slice (some ⟨g9, 0, none⟩) (out.length + 1) c9) (out.length + 1) ((gapL out kk y).map Value.string) ∧ Below w.heap.size w wr) (fun j _ => (intOf j).toNat)
              case atStart => exact ⟨out.length, ⟨#[]⟩, by omega, Nat.le_refl _, by go_num, HO9.out, HB9.out⟩
              case round =>
                obtain ⟨kk, y, hk1, hk2, rfl, ho5, hb5⟩ := hrel
                have HO5 := Lib.hid ho5
                have HB5 := Lib.hid hb5
                by_cases hlt3 : i < kk
                · exact absurd hlt3 (by omega)
                · obtain rfl : kk = i := by omega
                  have cx2 := HCX.out _ hb5
                  have ca := (ownS_cell ho5 kk (by omega))
                  have fa := ca.2
                  obtain ⟨z, hz⟩ : ∃ z, wr.cell? ⟨g9, kk, none⟩ = some z := by
                    rw [ca.1]
                    exact ⟨_, List.getElem?_eq_getElem (by rw [List.length_map, gap_length]; omega)⟩
                  have HN := Lib.hid (ownS_set ho5 kk (.string x))
                  have HST2 := Lib.hid (show ((gapL out kk y).map Value.string).set kk (.string x) = (insR x out).map Value.string by rw [← List.map_set, HSET.out, HINS.out])
                  have HBN := Lib.hid (fun v => hb5.setCell (p := ⟨g9, kk, none⟩) HGB.out v)
                  have HIL := Lib.hid (show (insR x out).length = out.length + 1 by rw [← HINS.out, gap_length])
                  clear ho5 hb5 ca
                  go_wp2
                  go_roundw
                  case rel => exact ⟨k + 1, by omega, by go_num, by rw [HRE.out, HIL.out, ← HST2.out]; exact HN.out, HBN.out _⟩
                  case measure => simp [intOf]; omega
    · obtain rfl : k = l.length := by omega
      generalize hn3 : (riseL (List.take l.length l)).length = n3 at *
      have hfin := HO.out
      rw [List.take_length] at hfin hn3
      have HF := Lib.hid hfin
      have HN3 := Lib.hid hn3
      clear ho hb hfin hn3
      go_wp2
      go_ret
      exact ⟨_, rfl, by rw [HN3.out]; exact HF.out, HB.out⟩
end Go.Proofs.Ytabongfoeoideaa
