/-
  The document's own of layer 12: Order.
-/
import Derived.Test.YtabongfoeoideaaRg4
namespace Go.Pal
open Go.RowKit Go.Pal.Dk
set_option linter.unusedVariables false
/-- May an entry be told? -/
def rdyB (T : List ByteArray) (e : ByteArray × List ByteArray) : Bool := !memB T e.1 && e.2.all (fun p => memB T p)
def NoE (es : List (ByteArray × List ByteArray)) : Prop := ∀ e ∈ es, e.1.size ≠ 0
/-- The least of those that may be told, among some; none: the empty text. -/
def BestOf (S : List (ByteArray × List ByteArray)) (T : List ByteArray) (b : ByteArray) : Prop :=
  (b = ⟨#[]⟩ ∧ ∀ e ∈ S, rdyB T e = false) ∨ (b ≠ ⟨#[]⟩ ∧ (∃ e ∈ S, e.1 = b ∧ rdyB T e = true) ∧ ∀ e ∈ S, rdyB T e = true → ¬ ltB e.1 b)
theorem best_nil (T : List ByteArray) : BestOf [] T ⟨#[]⟩ := .inl ⟨rfl, fun e he => by cases he⟩
theorem best_no {S : List (ByteArray × List ByteArray)} {T : List ByteArray} {b : ByteArray} {e : ByteArray × List ByteArray} (h : BestOf S T b) (he : rdyB T e = false) : BestOf (S ++ [e]) T b := by
  rcases h with ⟨h1, h2⟩ | ⟨h1, ⟨x, hx, hxb, hxr⟩, h3⟩
  · refine .inl ⟨h1, fun y hy => ?_⟩
    rcases List.mem_append.1 hy with hy | hy
    · exact h2 y hy
    · rw [List.mem_singleton.1 hy]; exact he
  · refine .inr ⟨h1, ⟨x, List.mem_append_left _ hx, hxb, hxr⟩, fun y hy hr => ?_⟩
    rcases List.mem_append.1 hy with hy | hy
    · exact h3 y hy hr
    · rw [List.mem_singleton.1 hy, he] at hr; cases hr
theorem best_first {S : List (ByteArray × List ByteArray)} {T : List ByteArray} {e : ByteArray × List ByteArray} (h : BestOf S T ⟨#[]⟩) (he : rdyB T e = true) (hn : e.1 ≠ ⟨#[]⟩) : BestOf (S ++ [e]) T e.1 := by
  rcases h with ⟨_, h2⟩ | ⟨h1, _⟩
  · refine .inr ⟨hn, ⟨e, by simp, rfl, he⟩, fun y hy hr => ?_⟩
    rcases List.mem_append.1 hy with hy | hy
    · rw [h2 y hy] at hr; cases hr
    · rw [List.mem_singleton.1 hy]; exact ltB_irrefl _
  · exact absurd rfl h1
theorem best_less {S : List (ByteArray × List ByteArray)} {T : List ByteArray} {b : ByteArray} {e : ByteArray × List ByteArray} (h : BestOf S T b) (hb : b ≠ ⟨#[]⟩) (he : rdyB T e = true) (hn : e.1 ≠ ⟨#[]⟩) (hl : ltB e.1 b) : BestOf (S ++ [e]) T e.1 := by
  rcases h with ⟨h1, _⟩ | ⟨h1, ⟨x, hx, hxb, hxr⟩, h3⟩
  · exact absurd h1 hb
  · refine .inr ⟨hn, ⟨e, by simp, rfl, he⟩, fun y hy hr => ?_⟩
    rcases List.mem_append.1 hy with hy | hy
    · exact fun hh => h3 y hy hr (ltB_trans hh hl)
    · rw [List.mem_singleton.1 hy]; exact ltB_irrefl _
theorem best_stay {S : List (ByteArray × List ByteArray)} {T : List ByteArray} {b : ByteArray} {e : ByteArray × List ByteArray} (h : BestOf S T b) (hb : b ≠ ⟨#[]⟩) (hl : ¬ ltB e.1 b) : BestOf (S ++ [e]) T b := by
  rcases h with ⟨h1, _⟩ | ⟨h1, ⟨x, hx, hxb, hxr⟩, h3⟩
  · exact absurd h1 hb
  · refine .inr ⟨h1, ⟨x, List.mem_append_left _ hx, hxb, hxr⟩, fun y hy hr => ?_⟩
    rcases List.mem_append.1 hy with hy | hy
    · exact h3 y hy hr
    · rw [List.mem_singleton.1 hy]; exact hl
theorem rdy_iff {es : List (ByteArray × List ByteArray)} (hn : (es.map Prod.fst).Nodup) {T : List ByteArray} {e : ByteArray × List ByteArray} (he : e ∈ es) : rdyB T e = true ↔ e.1 ∈ readyL es T := by
  rw [Go.Pal.mem_ready]
  unfold rdyB untoldN
  rw [look_self hn he]
  constructor
  · intro h
    rw [Bool.and_eq_true] at h
    refine ⟨lookE_isSome.2 (List.mem_map_of_mem he), fun hh => ?_, ?_⟩
    · rw [memB_iff.2 hh] at h; cases h.1
    · rw [List.filter_eq_nil_iff.2 (fun p hp => by rw [List.all_eq_true.1 h.2 p hp]; simp)]; rfl
  · rintro ⟨_, h2, h3⟩
    rw [memF.2 h2]
    have := List.filter_eq_nil_iff.1 (List.eq_nil_of_length_eq_zero h3)
    exact List.all_eq_true.2 fun p hp => by have := this p hp; simpa using this
theorem best_ready {es : List (ByteArray × List ByteArray)} (hn : (es.map Prod.fst).Nodup) {T : List ByteArray} {b : ByteArray} (h : BestOf es T b) : (b = ⟨#[]⟩ ∧ readyL es T = []) ∨ (b ≠ ⟨#[]⟩ ∧ ∃ r, readyL es T = b :: r) := by
  rcases h with ⟨h1, h2⟩ | ⟨h1, ⟨x, hx, hxb, hxr⟩, h3⟩
  · refine .inl ⟨h1, ?_⟩
    cases hr : readyL es T with
    | nil => rfl
    | cons a r =>
      exfalso
      have ha : a ∈ readyL es T := by rw [hr]; exact List.mem_cons_self
      obtain ⟨e, he, rfl⟩ := List.mem_map.1 (lookE_isSome.1 (Go.Pal.mem_ready.1 ha).1)
      have := (rdy_iff hn he).2 ha
      rw [h2 e he] at this; cases this
  · refine .inr ⟨h1, ?_⟩
    have hb : b ∈ readyL es T := hxb ▸ (rdy_iff hn hx).1 hxr
    have hri := ready_rising es T
    cases hr : readyL es T with
    | nil => rw [hr] at hb; cases hb
    | cons a r =>
      rw [hr] at hb hri
      rcases List.mem_cons.1 hb with rfl | hbr
      · exact ⟨r, rfl⟩
      · exfalso
        have hlt : ltB a b := (List.pairwise_cons.1 hri).1 b hbr
        have ha : a ∈ readyL es T := by rw [hr]; exact List.mem_cons_self
        obtain ⟨e, he, rfl⟩ := List.mem_map.1 (lookE_isSome.1 (Go.Pal.mem_ready.1 ha).1)
        exact h3 e he ((rdy_iff hn he).2 ha) hlt
theorem size_nz {b : ByteArray} (h : b ≠ ⟨#[]⟩) : b.size ≠ 0 := fun e => h (ByteArray.ext (Array.eq_empty_of_size_eq_zero e))
theorem not_nilB {s : ByteArray} (h : s.size ≠ 0) : s ≠ ⟨#[]⟩ := fun e => h (by rw [e]; rfl)
end Go.Pal
namespace Go.Proofs.Ytabongfoeoideaa
open Go.RowKit Go.Pal Go.Pal.Dk Go.Shelf
set_option linter.unusedVariables false
set_option maxHeartbeats 4000000 in
set_option maxRecDepth 100000 in
theorem rorder_any {w : World} {a : Option Addr} {cap : Nat} {l : List En} (h : EnsAt w a l) (hok : DagOk (esEn l)) (hn : ((esEn l).map Prod.fst).Nodup) (hne : NoE (esEn l)) :
    Calls Try.prog 26 #[.slice a l.length cap] w fun e w' => ∃ v, e = .returned v ∧ OwnL w' w.heap.size v (orderL (esEn l)) ∧ Below w.heap.size w w' := by
  obtain ⟨i0, hi0, hz0, hz1, hz2⟩ := info_parts (show (Try.prog.info? 9).map (fun i => (i.zero, i.size, i.bytes)) = some (some (.string ⟨#[]⟩), 1, 16) by kernel_rfl)
  have I0 := Lib.hid hi0
  have Z0 := Lib.hid hz0
  have Z1 := Lib.hid hz1
  have Z2 := Lib.hid hz2
  have HC := Lib.hid (fun k (hk : k < l.length) => cells_en (k := k) h hk)
  have HPR := Lib.hid (fun k (hk : k < l.length) => (h.ok _ (List.getElem_mem hk)).par.row)
  have HPL := Lib.hid (fun k (hk : k < l.length) => (h.ok _ (List.getElem_mem hk)).par.len)
  have hel : (esEn l).length = l.length := esEn_len l
  have hl3 : (esEn l).length ≤ 300 := hok.len
  have HRL := Lib.hid (show ∀ T, GoodL (esEn l) T → T.length ≤ 300 from fun T hg => Nat.le_trans hg.len hl3)
  have HNE := Lib.hid (fun k (hk : k < l.length) => show l[k].id ≠ ⟨#[]⟩ from not_nilB (by
    have := hne ((esEn l)[k]'(by rw [esEn_len]; exact hk)) (List.getElem_mem _)
    rw [esEn_get l k hk] at this; exact this))
  have HTK := Lib.hid (fun k (hk : k < l.length) => show (esEn l).take (k + 1) = (esEn l).take k ++ [entOf l[k].id l[k].par] from by
    rw [List.take_succ_eq_append_getElem (by rw [esEn_len]; exact hk), esEn_get l k hk])
  have HBR := Lib.hid (fun T b (hb : BestOf (esEn l) T b) => best_ready hn hb)
  have HTL := Lib.hid (show (esEn l).take l.length = esEn l by rw [← hel, List.take_length])
  have HEL := Lib.hid hel
  rw [hel] at hl3
  clear h hok hn hne hi0 hz0 hz1 hz2 hel
  generalize esEn l = es at *
  go_enter Try.func26, Try.ntmps26
  go_wp2
  go_loopw [3] (fun v3 wr => ∃ T : List ByteArray, OwnL wr w.heap.size v3 T ∧ GoodL es T ∧ orderGo es (es.length - T.length) T = orderL es ∧ Below w.heap.size w wr) (fun v3 _ => match v3 with | .slice _ n _ => l.length - n | _ => 0)
  case atStart => exact ⟨[], World.ownsRow_nil _ _ _ _, ⟨List.nodup_nil, fun x hx => by cases hx⟩, rfl, Below.refl _ _⟩
  case round =>
    obtain ⟨T, ho, hg, hgo, hb⟩ := hrel
    obtain ⟨p3, c3, rfl, hr3⟩ := ho.form
    have HO := Lib.hid ho
    have HG := Lib.hid hg
    have HGO := Lib.hid hgo
    have HB := Lib.hid hb
    have hT := HRL.out T hg
    clear ho hg hgo hb hr3
    by_cases hlt : T.length < l.length
    · have hlti : (T.length : Int) < (l.length : Int) := by omega
      go_wp2
      rename World => wi0
      go_loopw [4, 5] (fun v4 j wi => ∃ (i : Nat) (b : ByteArray), i ≤ l.length ∧ j = .int .i64 i ∧ v4 = .string b ∧ BestOf (es.take i) T b ∧ OwnL wi w.heap.size (.slice p3 T.length c3) T ∧ Below w.heap.size w wi) (fun _ j _ => l.length - (intOf j).toNat)
      case atStart => exact ⟨0, _, Nat.zero_le _, rfl, rfl, best_nil T, HO.out, HB.out⟩
      case round =>
        obtain ⟨i, b, hi, rfl, rfl, hbest, ho2, hb2⟩ := hrel
        have HO2 := Lib.hid ho2
        have HB2 := Lib.hid hb2
        have HBE := Lib.hid hbest
        have hr2 := ho2.at_
        by_cases hil : i < l.length
        · obtain ⟨b1, off, rfl, hbl, c0, c1⟩ := HC.out i hil
          have d0 := (hb2.cell (p := ⟨b1, off + i * 2, none⟩) hbl).trans c0
          have d1 := (hb2.cell (p := ⟨b1, off + i * 2 + 1, none⟩) hbl).trans c1
          have HR := Lib.hid (HPR.out i hil)
          have HTI := Lib.hid (HTK.out i hil)
          have hyn := HNE.out i hil
          have hml := HPL.out i hil
          unfold maxLen at hml
          have HHO := Lib.hid (fun s => rhas_any (cap := c3) hr2 (by unfold maxLen; omega) s)
          have i1 : (i : Int) < (l.length : Int) := by omega
          have i00 : (0 : Int) ≤ (i : Int) := by omega
          clear ho2 hbest c0 c1 hr2
          have HB3 := Lib.hid hb2
          clear hb2
          generalize l[i].id = y at *
          generalize l[i].par = M at *
          generalize l[i].at_ = xat at *
          generalize l[i].cap = xcap at *
          have HYN := Lib.hid hyn
          clear hyn
          go_wp2_with (go_at_call 28; refine (HHO.out _).mono ?_; rintro e w' ⟨rfl, e9⟩; rw [e9]; clear e9 w')
          go_loop [6, 7] (fun v6 j => ∃ k : Nat, k ≤ M.length ∧ j = .int .i64 k ∧ v6 = .bool (!memB T y && (M.take k).all (fun p => memB T p))) (fun _ j => M.length - (intOf j).toNat)
          case atStart => exact ⟨0, Nat.zero_le _, rfl, by simp⟩
          case round =>
            obtain ⟨k, hk, rfl, rfl⟩ := hrel
            by_cases hkl : k < M.length
            · obtain ⟨b2, o2, rfl, hbl2, hcell⟩ := sRow_some HR.out (by omega)
              have ck := (HB3.out.cell (p := ⟨b2, o2 + k, none⟩) hbl2).trans (hcell k hkl)
              have HTM := Lib.hid (show (M.take (k + 1)).all (fun p => memB T p) = ((M.take k).all (fun p => memB T p) && memB T M[k]) by rw [List.take_succ_eq_append_getElem hkl, List.all_append]; simp)
              have HHK := Lib.hid (HHO.out M[k])
              have k1 : (k : Int) < (M.length : Int) := by omega
              have k0 : (0 : Int) ≤ (k : Int) := by omega
              clear hcell
              generalize M[k] = z at *
              generalize hq : (M.take k).all (fun p => memB T p) = q at *
              clear hq
              generalize memB T z = r at *
              generalize hq2 : (!memB T y && q) = q2 at *
              have HQ2 := Lib.hid hq2
              clear hq2
              cases q2 with
              | true =>
                go_wp2_with (go_at_call 28; refine HHK.out.mono ?_; rintro e w' ⟨rfl, e9⟩; rw [e9]; clear e9 w')
                go_round
                case rel => exact ⟨k + 1, by omega, by go_num, by rw [HTM.out, ← Bool.and_assoc, HQ2.out]; rfl⟩
                case measure => simp [intOf]; omega
              | false =>
                go_wp2
                go_round
                case rel => exact ⟨k + 1, by omega, by go_num, by rw [HTM.out, ← Bool.and_assoc, HQ2.out]; rfl⟩
                case measure => simp [intOf]; omega
            · obtain rfl : k = M.length := by omega
              rw [List.take_length]
              have HRD := Lib.hid (show rdyB T (entOf y M) = (!memB T y && M.all (fun p => memB T p)) from rfl)
              generalize hrd : (!memB T y && M.all (fun p => memB T p)) = rd at *
              clear hrd
              have fin : ∀ b', BestOf (es.take i ++ [entOf y M]) T b' → ∃ (i' : Nat) (b : ByteArray), i' ≤ l.length ∧ Value.int .i64 ((i : Int) + 1) = .int .i64 i' ∧ Value.string b' = .string b ∧ BestOf (es.take i') T b ∧ OwnL wr w.heap.size (.slice p3 T.length c3) T ∧ Below w.heap.size w wr := fun b' hb' => ⟨i + 1, b', by omega, by go_num, rfl, by rw [HTI.out]; exact hb', HO2.out, HB2.out⟩
              have FIN := Lib.hid fin
              clear fin
              cases rd with
              | false =>
                have HN := Lib.hid (best_no HBE.out HRD.out)
                go_wp2
                go_roundw
                case rel => exact FIN.out _ HN.out
                case measure => simp [intOf]; omega
              | true =>
                by_cases hb0 : b = ⟨#[]⟩
                · subst hb0
                  have HN := Lib.hid (best_first HBE.out HRD.out HYN.out)
                  have heq := beqWT (a := (⟨#[]⟩ : ByteArray))
                  go_wp2
                  go_roundw
                  case rel => exact FIN.out _ HN.out
                  case measure => simp [intOf]; omega
                · obtain ⟨hb1, hb2e⟩ := not_empty (size_nz hb0)
                  have HB0 := Lib.hid hb0
                  clear hb0
                  by_cases hlt2 : ltB y b
                  · have HN := Lib.hid (best_less HBE.out HB0.out HRD.out HYN.out hlt2)
                    have hls := r_less hlt2
                    clear hlt2
                    go_wp2
                    go_roundw
                    case rel => exact FIN.out _ HN.out
                    case measure => simp [intOf]; omega
                  · have HN := Lib.hid (best_stay (e := entOf y M) HBE.out HB0.out hlt2)
                    have hls := r_not_less hlt2
                    clear hlt2
                    go_wp2
                    go_roundw
                    case rel => exact FIN.out _ HN.out
                    case measure => simp [intOf]; omega
        · obtain rfl : i = l.length := by omega
          have hbe := hbest
          rw [HTL.out] at hbe
          have hws := hb2.size
          rcases HBR.out T b hbe with ⟨rfl, hrn⟩ | ⟨hbn, r, hrr⟩
          · have HE := Lib.hid (show orderL es = T by rw [← HGO.out]; exact order_end hrn _)
            have heq := beqWT (a := (⟨#[]⟩ : ByteArray))
            clear ho2 hbest hbe hrn hb2 hr2
            go_wp2
            go_ret
            rw [HE.out]
            exact ⟨_, rfl, HO2.out, HB2.out⟩
          · have HR := Lib.hid hrr
            obtain ⟨hb1, hb2e⟩ := not_empty (size_nz hbn)
            have H1 := Lib.hid (show T.length + 1 ≤ maxLen by unfold maxLen; omega)
            have H2 := Lib.hid (show (T.length + 1) * 16 ≤ 140737488355328 by omega)
            have HGT := Lib.hid (told_step HG.out hrr)
            clear ho2 hbest hbe hrr hbn hb2 hr2
            go_wp2_with (at_builtin; refine wpList_append_own _ rfl _ _ 30 rfl w.heap.size 9 i0 (.string ⟨#[]⟩) 1 16 Try.underlying30 I0.out Z0.out Z1.out Z2.out rfl (by decide) _ T.length (T.map Value.string) rfl (HO2.out.alloc _) ⟨wr.heap.size, 0, none⟩ 1 1 [.string b] rfl rfl (one_new wr 9 b) (one_str1 b) H1.out H2.out (by simp; omega) ?_; intro v9 w9 ho9 hg9 _; obtain ⟨p9, c9, rfl, _⟩ := rowS_form ho9; have O9 := Lib.hid (show OwnL w9 w.heap.size (.slice p9 (T.length + 1) c9) (T ++ [b]) by unfold OwnL; simpa using ho9); have B9 := Lib.hid (HB2.out.grown ((World.grownBy_alloc wr _ _).trans hg9) hws (fun j hj => (own_lt HO2.out hj).2.1)); clear ho9 hg9)
            go_roundw
            case rel => exact ⟨T ++ [b], O9.out, HGT.out, by rw [← order_step HGT.out HR.out]; exact HGO.out, B9.out⟩
            case measure => show l.length - (T.length + 1) < l.length - T.length; omega
    · have hlti : ¬ ((T.length : Int) < (l.length : Int)) := by omega
      have HE := Lib.hid (show orderL es = T by
        have h1 := HGO.out
        rw [show es.length - T.length = 0 by rw [HEL.out]; omega] at h1
        rw [← h1]; rfl)
      go_wp2
      go_ret
      rw [HE.out]
      exact ⟨_, rfl, HO.out, HB.out⟩
end Go.Proofs.Ytabongfoeoideaa
