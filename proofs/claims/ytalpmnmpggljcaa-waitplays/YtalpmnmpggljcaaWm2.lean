/-
  The law's own model of a room: missing.
-/
import Derived.Test.YtalpmnmpggljcaaWm
namespace Go.Pal
open Go.RowKit Go.Pal.Dk
/-- What missing has laid behind i of those that wait, and k of the next one's. -/
def outM (ws : List Wt) (i k : Nat) : List ByteArray := ((ws.take i).flatMap Wt.miss ++ ((ws.drop i).head?.elim [] Wt.miss).take k).filter (notId ws)
theorem outM_zero (ws : List Wt) : outM ws 0 0 = [] := by simp [outM]
theorem head_drop {ws : List Wt} {i : Nat} (hi : i < ws.length) : (ws.drop i).head?.elim [] Wt.miss = ws[i].miss := by
  rw [List.head?_drop, List.getElem?_eq_getElem hi]; rfl
theorem outM_step {ws : List Wt} {i k : Nat} (hi : i < ws.length) (hk : k < ws[i].miss.length) : outM ws i (k + 1) = outM ws i k ++ if notId ws ws[i].miss[k] then [ws[i].miss[k]] else [] := by
  unfold outM
  rw [head_drop hi, List.take_succ_eq_append_getElem hk, ← List.append_assoc, List.filter_append]
  congr 1
  cases h : notId ws ws[i].miss[k] <;> simp [h]
theorem outM_next {ws : List Wt} {i : Nat} (hi : i < ws.length) : outM ws i ws[i].miss.length = outM ws (i + 1) 0 := by
  unfold outM
  rw [head_drop hi, List.take_length, List.take_zero, List.append_nil, List.take_succ_eq_append_getElem hi, List.flatMap_append]
  simp
theorem outM_end (ws : List Wt) : riseL (outM ws ws.length 0) = missW ws := by
  unfold outM missW
  rw [List.take_length, List.take_zero, List.append_nil]
  rfl
theorem flat_le : ∀ (l : List Wt), (∀ x ∈ l, x.miss.length ≤ 60) → (l.flatMap Wt.miss).length ≤ 60 * l.length
  | [], _ => by simp
  | a :: r, h => by
    have h1 := h a (by simp)
    have h2 := flat_le r (fun x hx => h x (by simp [hx]))
    have e : (a :: r).flatMap Wt.miss = a.miss ++ r.flatMap Wt.miss := rfl
    rw [e, List.length_append, List.length_cons]; omega
theorem outM_le {ws : List Wt} (hl : ws.length ≤ 60) (hm : ∀ x ∈ ws, x.miss.length ≤ 60) (i k : Nat) : (outM ws i k).length ≤ 3660 := by
  unfold outM
  refine Nat.le_trans (List.length_filter_le _ _) ?_
  rw [List.length_append]
  have h1 := flat_le (ws.take i) (fun x hx => hm x (List.mem_of_mem_take hx))
  rw [List.length_take] at h1
  have h2 : (((ws.drop i).head?.elim [] Wt.miss).take k).length ≤ 60 := by
    refine Nat.le_trans (List.length_take_le' _ _) ?_
    cases hh : (ws.drop i).head? with
    | none => simp
    | some x =>
      exact hm x (List.mem_of_mem_drop (List.mem_of_mem_head? hh))
  omega
end Go.Pal
namespace Go.Proofs.Ytalpmnmpggljcaa
open Go.RowKit Go.Pal Go.Pal.Dk
set_option linter.unusedVariables false

set_option maxHeartbeats 2000000 in
set_option maxRecDepth 100000 in
theorem lmissing_any {w : World} {base : Nat} {v : Value} {ms : List Mo} (h : ModAt w base v ms) (hl : ms.length ≤ 60) (hm : ∀ p ∈ ms, p.x.miss.length ≤ 60) :
    Calls Try.prog 46 #[v] w fun e w' => ∃ v', e = .returned v' ∧ w'.ownsRow w.heap.size 9 1 v' (missW (wsOf ms)).length ((missW (wsOf ms)).map Value.string) ∧ Below w.heap.size w w' := by
  obtain ⟨p, cap, rfl, h1, h2, hp⟩ := rowS_form h.row
  have HMOD := Lib.hid h
  have HP := Lib.hid hp
  have hwl := wsOf_length ms
  have HOL := Lib.hid (fun i k => outM_le (ws := wsOf ms) (by rw [hwl]; exact hl) (fun x hx => by obtain ⟨q, hq, rfl⟩ := List.mem_map.1 hx; exact hm q hq) i k)
  have HST := Lib.hid (fun i (hi : i < ms.length) k (hk : k < ms[i].x.miss.length) => show outM (wsOf ms) i (k + 1) = outM (wsOf ms) i k ++ if notId (wsOf ms) ms[i].x.miss[k] then [ms[i].x.miss[k]] else [] by
    have hi' : i < (wsOf ms).length := by rw [hwl]; exact hi
    have e : (wsOf ms)[i] = ms[i].x := wsOf_get ms i hi
    have := outM_step (ws := wsOf ms) (i := i) (k := k) hi' (by rw [e]; exact hk)
    simp only [e] at this
    exact this)
  have HNX := Lib.hid (fun i (hi : i < ms.length) => show outM (wsOf ms) i ms[i].x.miss.length = outM (wsOf ms) (i + 1) 0 by
    have hi' : i < (wsOf ms).length := by rw [hwl]; exact hi
    have e : (wsOf ms)[i] = ms[i].x := wsOf_get ms i hi
    have := outM_next (ws := wsOf ms) (i := i) hi'
    rw [e] at this; exact this)
  have HEN := Lib.hid (show riseL (outM (wsOf ms) ms.length 0) = missW (wsOf ms) by rw [← hwl]; exact outM_end _)
  have HZ := Lib.hid (outM_zero (wsOf ms))
  have HLT := Lib.hid (findI_lt (wsOf ms))
  have HFIND := Lib.hid (fun (wx : World) (hb : Below w.heap.size w wx) s => lfind_any (h.below hb (Nat.le_refl _)) s)
  obtain ⟨i0, hi0, hz0, hz1, hz2⟩ := info_parts (show (Try.prog.info? 9).map (fun i => (i.zero, i.size, i.bytes)) = some (some (.string ⟨#[]⟩), 1, 16) by kernel_rfl)
  have I0 := Lib.hid hi0
  have Z0 := Lib.hid hz0
  have Z1 := Lib.hid hz1
  have Z2 := Lib.hid hz2
  have HM60 := Lib.hid hm
  unfold maxLen at h2
  clear h hp h1 h2 hi0 hz0 hz1 hz2 hm hwl
  go_enter Try.func46, Try.ntmps46
  go_wp2
  go_loopw [3, 4] (fun v3 j wr => ∃ i : Nat, i ≤ ms.length ∧ j = .int .i64 i ∧ wr.ownsRow w.heap.size 9 1 v3 (outM (wsOf ms) i 0).length ((outM (wsOf ms) i 0).map Value.string) ∧ Below w.heap.size w wr) (fun _ j _ => ms.length - (intOf j).toNat)
  case atStart => exact ⟨0, Nat.zero_le _, rfl, by rw [HZ.out]; exact World.ownsRow_nil _ _ _ _, Below.refl _ _⟩
  case round =>
    obtain ⟨i, hi, rfl, ho, hb⟩ := hrel
    have HO := Lib.hid ho
    have HB := Lib.hid hb
    clear ho hb
    by_cases hlt : i < ms.length
    · obtain ⟨g, rfl⟩ := HP.out (by omega)
      have hgl := (own_lt HMOD.out.row (g := g) rfl).1
      have hc2 := (rowM_cells HMOD.out.row i hlt).2.2
      have hmo := HMOD.out.each _ (List.getElem_mem hlt)
      obtain ⟨pm, cm, hmv, hsm⟩ := own_texts hmo
      have hmm := HM60.out _ (List.getElem_mem hlt)
      rw [hmv] at hc2
      have HSM := Lib.hid (fun h0 => sRow_some hsm h0)
      have HSTI := Lib.hid (fun k hk => HST.out i hlt k hk)
      have HNXI := Lib.hid (HNX.out i hlt)
      have HC2 := Lib.hid (fun (wx : World) (hb : Below w.heap.size w wx) => (hb.cell (p := ⟨g, i * 3 + 2, none⟩) hgl).trans hc2)
      clear hmo hmv hsm hc2
      generalize ms[i].x.miss = L at *
      have hc3 := HC2.out _ HB.out
      go_wp2
      go_loopw [3, 5] (fun v3 j wr => ∃ k : Nat, k ≤ L.length ∧ j = .int .i64 k ∧ wr.ownsRow w.heap.size 9 1 v3 (outM (wsOf ms) i k).length ((outM (wsOf ms) i k).map Value.string) ∧ Below w.heap.size w wr) (fun _ j _ => L.length - (intOf j).toNat)
      case atStart => exact ⟨0, Nat.zero_le _, rfl, HO.out, HB.out⟩
      case round =>
        obtain ⟨k, hk, rfl, ho, hb⟩ := hrel
        have HO2 := Lib.hid ho
        have HB2 := Lib.hid hb
        have cm2 := HC2.out _ hb
        clear hc3
        by_cases hlk : k < L.length
        · obtain ⟨bm, om, rfl, hbm, hcm⟩ := HSM.out (by omega)
          have ck := (hb.cell (p := ⟨bm, om + k, none⟩) hbm).trans (hcm k hlk)
          have HSK := Lib.hid (HSTI.out k hlk)
          have hol := HOL.out i k
          clear hcm ho hb
          generalize L[k] = s at *
          have HFD := Lib.hid (HFIND.out _ HB2.out s)
          have HL := Lib.hid (HLT.out s)
          generalize findI (wsOf ms) s = f at *
          generalize outM (wsOf ms) i k = out at *
          by_cases hf : f < 0
          · have HN := Lib.hid (show outM (wsOf ms) i (k + 1) = out ++ [s] by rw [HSK.out, HL.out.1 hf]; rfl)
            have H1 := Lib.hid (show out.length + 1 ≤ maxLen by unfold maxLen; omega)
            have H2 := Lib.hid (show (out.length + 1) * 16 ≤ 140737488355328 by omega)
            go_wp2_with (first | (go_at_call 38; refine HFD.out.mono ?_; rintro e w5 ⟨rfl, e9⟩; rw [e9]; clear e9 w5) | (at_builtin; refine wpList_append_own _ rfl _ _ 30 rfl w.heap.size 9 i0 (.string ⟨#[]⟩) 1 16 Try.underlying30 I0.out Z0.out Z1.out Z2.out rfl (by decide) _ out.length (out.map Value.string) rfl (HO2.out.alloc _) ⟨wr.heap.size, 0, none⟩ 1 1 [.string s] rfl rfl (one_new wr 9 s) (one_str1 _) H1.out H2.out (by have := HB2.out.size; simp; omega) ?_; intro v9 w9 ho9 hg9 _; have HB9 := Lib.hid ((HB2.out.alloc HB2.out.size (.cells #[.string s] 9)).grown hg9 (by have := HB2.out.size; simp; omega) (fun j hj => (own_lt HO2.out hj).2.1)); have HO9 := Lib.hid ho9; clear ho9 hg9))
            go_roundw
            case rel => exact ⟨k + 1, by omega, by go_num, by rw [HN.out, List.map_append, List.length_append]; exact HO9.out, HB9.out⟩
            case measure => simp [intOf]; omega
          · have HN := Lib.hid (show outM (wsOf ms) i (k + 1) = out by
              have hf2 : notId (wsOf ms) s = false := by
                cases h : notId (wsOf ms) s
                · rfl
                · exact absurd (HL.out.2 h) hf
              rw [HSK.out, hf2]; simp)
            go_wp2_with (go_at_call 38; refine HFD.out.mono ?_; rintro e w5 ⟨rfl, e9⟩; rw [e9]; clear e9 w5)
            go_roundw
            case rel => exact ⟨k + 1, by omega, by go_num, by rw [HN.out]; exact HO2.out, HB2.out⟩
            case measure => simp [intOf]; omega
        · obtain rfl : k = L.length := by omega
          rw [HNXI.out] at ho
          have HO3 := Lib.hid ho
          clear ho hb hlk
          go_wp2
          go_roundw
          case rel => exact ⟨i + 1, by omega, by go_num, HO3.out, HB2.out⟩
          case measure => simp [intOf]; omega
    · obtain rfl : i = ms.length := by omega
      have hol := HOL.out ms.length 0
      obtain ⟨p8, c8, rfl, hs8⟩ := own_texts HO.out
      have HSO := Lib.hid (rsorted_any (cap := c8) hs8 (by omega))
      rw [HEN.out] at HSO
      clear hs8 hlt
      generalize (outM (wsOf ms) ms.length 0).length = n8 at *
      go_wp2_with (go_at_call 39; refine HSO.out.mono ?_; rintro e w6 ⟨v6, rfl, ho6, hb6⟩; have HF := Lib.hid (rowS_weak ho6 HB.out.size); have HB6 := Lib.hid (HB.out.trans (hb6.mono HB.out.size)); clear ho6 hb6)
      go_ret
      exact ⟨_, rfl, HF.out, HB6.out⟩
end Go.Proofs.Ytalpmnmpggljcaa
