/-
  BloomGrows: with one id more, as long as the size is the same, all bits that were set are.
  No condition but what the row itself says.
-/
import Derived.Test.YtbipmeogcmmhhaaBl9
namespace Go.Proofs.Ytbipmeogcmmhhaa.BloomGrows
open Go.ChangeShapes Go.WideShapes Go.ChangeAt Go.RowKit Go.Pal
open Go.ChangeMaps (open_string shut_string)
set_option linter.unusedVariables false

set_option maxHeartbeats 2000000 in
set_option maxRecDepth 100000 in
theorem walk (a : Option Addr) (cap : Nat) (l : List ByteArray) (id : ByteArray) (hz : id.size ≤ 140737488351232) (w : World) (h : StrsAt w a l) :
    Calls Try.prog 15 #[.slice a l.length cap, .string id] w fun e w' => e = .returned (.bool true) ∧ Below w.heap.size w w' := by
  have HG := Lib.hid (great14_any (cap := cap) h.row h.len)
  clear hz
  by_cases h300 : 300 < id.size ∨ greatB14 l = true
  · by_cases hgr : greatB14 l = true
    · rw [hgr] at HG
      clear hgr h h300
      go_enter Try.func15, Try.ntmps15
      go_wp2_with (first
        | (go_at_call 42; refine HG.out.mono ?_; rintro e w1 ⟨rfl, rfl⟩)
        | (go_at_call 37; refine (awake14 _).mono ?_; rintro e w2 ⟨rfl, b2⟩))
      go_ret
      exact ⟨rfl, b2⟩
    · have d1 : decide (300 < (id.size : Int)) = true := decide_eq_true (by rcases h300 with h | h; · omega
                                                                            · exact absurd h hgr)
      rw [Bool.not_eq_true] at hgr
      rw [hgr] at HG
      clear hgr h h300
      go_enter Try.func15, Try.ntmps15
      go_wp2_with (first
        | (go_at_call 42; refine HG.out.mono ?_; rintro e w1 ⟨rfl, rfl⟩)
        | (go_at_call 37; refine (awake14 _).mono ?_; rintro e w2 ⟨rfl, b2⟩))
      go_ret
      exact ⟨rfl, b2⟩
  have hgr : greatB14 l = false := by cases hq : greatB14 l; · rfl
                                      · exact absurd (.inr hq) h300
  have d1 : decide (300 < (id.size : Int)) = false := decide_eq_false (by omega)
  rw [hgr] at HG
  have hl := (greatB14_no hgr).1
  have HA := Lib.hid (make_any (cap := cap) h.row (by omega))
  obtain ⟨i0, hi0, hz0, hz1, hz2⟩ := info_parts (show (Try.prog.info? 9).map (fun i => (i.zero, i.size, i.bytes)) = some (some (.string ⟨#[]⟩), 1, 16) by kernel_rfl)
  have HIN := Lib.hid (and_of l (l ++ [id]) · (fun s hs => List.mem_append_left _ hs))
  have HR := Lib.hid (fun W (hb : Below w.heap.size w W) => h.row.below hb)
  have HC1 : Hid (0 + l.length ≤ maxLen) := Lib.hid (by unfold maxLen; omega)
  have HC2 : Hid ((0 + l.length) * 16 ≤ 140737488355328) := Lib.hid (by omega)
  have HC3 : Hid (l.length + 1 ≤ maxLen) := Lib.hid (by unfold maxLen; omega)
  have HC4 : Hid ((l.length + 1) * 16 ≤ 140737488355328) := Lib.hid (by omega)
  clear hgr h300 h
  have HO1 := Lib.hid (fun W (hb : w.heap.size ≤ (W : World).heap.size) => own_empty hb)
  go_enter Try.func15, Try.ntmps15
  have HXS := Lib.hid (show (makeB l).size ≤ 512 by have := makeB_size l; have := sizeB_le (cntB l); omega)
  rcases hL : l with _ | ⟨s0, l0⟩
  · subst hL
    have HA0 := Lib.hid (show Calls Try.prog 43 #[.slice a 0 cap] w fun e w' => e = .returned (.string (makeB [])) ∧ Below w.heap.size w w' from HA.out)
    have HG0 := Lib.hid (show Calls Try.prog 42 #[.slice a 0 cap] w fun e w' => e = .returned (.bool false) ∧ w' = w from HG.out)
    clear HG
    simp only [List.length_nil]
    go_wp2_with (first
      | (go_at_call 42; refine HG0.out.mono ?_; rintro e w9 ⟨rfl, e9⟩; rw [e9]; clear e9 w9)
      | (go_at_call 43; refine HA0.out.mono ?_; rintro e w1 ⟨rfl, b1⟩; have HB1 := Lib.hid b1; clear b1)
      | (at_builtin; refine wpList_append_zero rfl _ _ 30 rfl w.heap.size 9 i0 1 Try.underlying30 hi0 _ 0 [] rfl (HO1.out _ HB1.out.size) a cap rfl ?_))
    refine Lib.hid ?_
    have O3 := Lib.hid (HO1.out w1 HB1.out.size)
    have B3 := Lib.hid (HB1.out.alloc HB1.out.size (.cells #[] 9))
    have hsz : (w1.alloc (.cells #[] 9)).heap.size = w1.heap.size + 1 := by simp
    obtain ⟨g3, hg3⟩ : ∃ g, g = w1.heap.size := ⟨_, rfl⟩
    rw [← hg3] at O3 ⊢
    obtain ⟨w3, hw3⟩ : ∃ W, W = w1.alloc (.cells #[] 9) := ⟨_, rfl⟩
    rw [← hw3] at O3 B3 ⊢
    clear hw3 hg3 hsz HB1 HA0
    rw [List.nil_append] at HIN
    go_wp2_with (at_builtin; refine wpList_append_lies _ rfl _ _ 30 rfl w.heap.size 9 i0 (.string ⟨#[]⟩) 1 16 Try.underlying30 hi0 hz0 hz1 hz2 rfl (by omega) _ 0 _ rfl (O3.out.alloc _) ⟨w3.heap.size, 0, none⟩ 1 1 [.string id] rfl rfl (World.news_of_block (cs := #[.string id]) (t := 9) (fr := (0, 0)) (heap_alloc_new w3 _)) (all_strs [id]) (by omega) HC3.out HC4.out (by have := B3.out.size; simp; omega) (w3.heap.size + 1) (by simp) ?_)
    intro g4 cap4 w4 hown4 hg4 _ _
    have B4 := Lib.hid ((B3.out.alloc B3.out.size _).grown hg4 (by have := B3.out.size; simp; omega) (fun q hq => (own_lt O3.out hq).2.1))
    have HRW := Lib.hid (own_row (l := [id]) hown4 rfl)
    have HM := Lib.hid (make_at (cap := cap4) HRW.out (by simp) (Below.refl _ _))
    clear hown4 hg4
    go_wp2_with (go_at_call 43; refine HM.out.mono ?_; rintro e w5 ⟨rfl, b5⟩; have B5 := Lib.hid (B4.out.trans (b5.mono B4.out.size)); clear b5)
    clear HM HRW B4 B3 O3 HA
    generalize makeB ([id]) = Y at *
    generalize makeB [] = X at *
    go_loopw [7] (fun j wr => ∃ k : Nat, k ≤ X.size ∧ j = .int .i64 k ∧ Below w.heap.size w wr) (fun j _ => X.size - (intOf j).toNat)
    case atStart => exact ⟨0, Nat.zero_le _, rfl, B5.out⟩
    case round =>
      obtain ⟨k, hk, rfl, hb⟩ := hrel
      have HB := Lib.hid hb
      have hX := HXS.out
      clear hb
      by_cases hlt : k < X.size
      · have k1 : (k : Int) < (X.size : Int) := by omega
        by_cases hs : X.size = Y.size
        · have d2 : ((X.size : Int) == (Y.size : Int)) = true := by simp; omega
          have k2 : (k : Int) < (Y.size : Int) := by omega
          have hlt2 : k < Y.size := by omega
          have hAND := HIN.out hs k hlt hlt2
          clear hs
          go_wp2
          go_region
          go_wp2
          go_roundw
          case rel => exact ⟨k + 1, by omega, by go_num, below_drew HB.out⟩
          case measure => simp [intOf]; omega
        · have d2 : ((X.size : Int) == (Y.size : Int)) = false := by simp; omega
          clear hs
          go_wp2_with (go_at_call 37; refine (awake14 _).mono ?_; rintro e w2 ⟨rfl, b2⟩)
          go_ret
          exact ⟨rfl, HB.out.trans (b2.mono HB.out.size)⟩
      · go_wp2_with (go_at_call 37; refine (awake14 _).mono ?_; rintro e w2 ⟨rfl, b2⟩)
        go_ret
        exact ⟨rfl, HB.out.trans (b2.mono HB.out.size)⟩
  have HL0 := Lib.hid (show 0 < l.length by rw [hL]; simp)
  rw [← hL] at *
  clear hL
  obtain ⟨b, off, rfl⟩ : ∃ b off, a = some ⟨b, off, none⟩ := by obtain ⟨b, off, rfl, _⟩ := bRow_some (HR.out w (Below.refl _ _)) HL0.out; exact ⟨b, off, rfl⟩
  go_wp2_with (first
    | (go_at_call 42; refine HG.out.mono ?_; rintro e w9 ⟨rfl, e9⟩; rw [e9]; clear e9 w9)
    | (go_at_call 43; refine HA.out.mono ?_; rintro e w1 ⟨rfl, b1⟩; have HB1 := Lib.hid b1; have HNW := Lib.hid (row_news (HR.out _ (b1.alloc b1.size (.cells #[] 9)))); clear b1)
    | (at_builtin; refine wpList_append_lies _ rfl _ _ 30 rfl w.heap.size 9 i0 (.string ⟨#[]⟩) 1 16 Try.underlying30 hi0 hz0 hz1 hz2 rfl (by omega) _ 0 [] rfl (HO1.out _ HB1.out.size) ⟨b, off, none⟩ l.length _ (l.map Value.string) rfl (by simp) HNW.out (all_strs l) HL0.out HC1.out HC2.out (by have := HB1.out.size; simp; omega) _ rfl ?_))
  intro g3 cap3 w3 hown3 hg3 _ _
  have B3 := Lib.hid ((HB1.out.alloc HB1.out.size _).grown hg3 (by have := HB1.out.size; simp; omega) (fun q hq => by simp [Value.ownBlock] at hq; have := HB1.out.size; omega))
  have O3 := Lib.hid (show w3.ownsRow w.heap.size 9 1 (.slice (some ⟨g3, 0, none⟩) l.length cap3) l.length (l.map Value.string) from hown3)
  clear hown3 hg3
  go_wp2_with (at_builtin; refine wpList_append_lies _ rfl _ _ 30 rfl w.heap.size 9 i0 (.string ⟨#[]⟩) 1 16 Try.underlying30 hi0 hz0 hz1 hz2 rfl (by omega) _ l.length _ rfl (O3.out.alloc _) ⟨w3.heap.size, 0, none⟩ 1 1 [.string id] rfl rfl (World.news_of_block (cs := #[.string id]) (t := 9) (fr := (0, 0)) (heap_alloc_new w3 _)) (all_strs [id]) (by omega) HC3.out HC4.out (by have := B3.out.size; simp; omega) (w3.heap.size + 1) (by simp) ?_)
  intro g4 cap4 w4 hown4 hg4 _ _
  have B4 := Lib.hid ((B3.out.alloc B3.out.size _).grown hg4 (by have := B3.out.size; simp; omega) (fun q hq => (own_lt O3.out hq).2.1))
  have HRW := Lib.hid (own_row (l := l ++ [id]) (by rw [List.map_append]; exact hown4) (by simp))
  have HM := Lib.hid (make_at (cap := cap4) HRW.out (by rw [List.length_append]; simp; omega) (Below.refl _ _))
  clear hown4 hg4
  go_wp2_with (go_at_call 43; refine HM.out.mono ?_; rintro e w5 ⟨rfl, b5⟩; have B5 := Lib.hid (B4.out.trans (b5.mono B4.out.size)); clear b5)
  clear HM HRW B4 B3 O3 HA
  generalize makeB (l ++ [id]) = Y at *
  generalize makeB l = X at *
  go_loopw [7] (fun j wr => ∃ k : Nat, k ≤ X.size ∧ j = .int .i64 k ∧ Below w.heap.size w wr) (fun j _ => X.size - (intOf j).toNat)
  case atStart => exact ⟨0, Nat.zero_le _, rfl, B5.out⟩
  case round =>
    obtain ⟨k, hk, rfl, hb⟩ := hrel
    have HB := Lib.hid hb
    have hX := HXS.out
    clear hb
    by_cases hlt : k < X.size
    · have k1 : (k : Int) < (X.size : Int) := by omega
      by_cases hs : X.size = Y.size
      · have d2 : ((X.size : Int) == (Y.size : Int)) = true := by simp; omega
        have k2 : (k : Int) < (Y.size : Int) := by omega
        have hlt2 : k < Y.size := by omega
        have hAND := HIN.out hs k hlt hlt2
        clear hs
        go_wp2
        go_region
        go_wp2
        go_roundw
        case rel => exact ⟨k + 1, by omega, by go_num, below_drew HB.out⟩
        case measure => simp [intOf]; omega
      · have d2 : ((X.size : Int) == (Y.size : Int)) = false := by simp; omega
        clear hs
        go_wp2_with (go_at_call 37; refine (awake14 _).mono ?_; rintro e w2 ⟨rfl, b2⟩)
        go_ret
        exact ⟨rfl, HB.out.trans (b2.mono HB.out.size)⟩
    · go_wp2_with (go_at_call 37; refine (awake14 _).mono ?_; rintro e w2 ⟨rfl, b2⟩)
      go_ret
      exact ⟨rfl, HB.out.trans (b2.mono HB.out.size)⟩

theorem own : ownKnob Try.prog.godebug = none := by kernel_rfl
theorem laidOut : laidOutB Try.prog = true := by kernel_rfl

set_option maxRecDepth 100000 in
theorem lifted (os : Os) (started : os.Started) (H : Type) (enc : TypeId × Value → H) :
    ReturnsInHanded {} Try.checked os 15 .any (Rows.bloomGrowsSpec.pre6 enc Try.prog Try.f15 Rows.bloomGrowsRow.domain false) (Rows.bloomGrowsSpec.post enc Try.prog Try.f15 false true false false) := by
  refine returnsInHanded_of_change_sized (C := Try.checked) own started (by kernel_rfl) Try.func15
    (ChangeSpec.witness6 (enc := enc) (C := Try.checked) false ⟨#[], #[.slice none 0 0, .string ByteArray.empty], []⟩ 8 (by kernel_rfl) (by kernel_rfl) (by kernel_rfl) (by kernel_rfl)) ?_
  intro W base args ds gs before hval0 hW _ hsz0 _
  have hsz : (DataW.weightsEach Try.prog (Try.f15.params.toList ++ Rows.bloomGrowsSpec.plain.varTypes Try.prog) (ds ++ gs)).all (· ≤ reachBytes) = true := hsz0
  clear hsz0
  have hval : ∀ (j : Nat) t v, Try.f15.params[j]? = some t → args[j]? = some v → Value.okWide Try.prog W .any base t v := hval0
  have hW' := hW
  obtain ⟨p, q, hA0, hV, rfl, hfz, hnd⟩ := hW
  have hA : DataW.TrodAll enc Try.prog W 0 (fun _ => true) true Try.f15.params.toList args.toList ds p := hA0
  rw [Try.params15] at hA hval hsz
  obtain ⟨v0, vs0, d0, ds0, p0, q0, hargs, rfl, rfl, h0, r0⟩ := trodAll_cons hA
  obtain ⟨v1, vs1, d1, ds1, p1, q1, rfl, rfl, rfl, h1, r1⟩ := trodAll_cons r0
  obtain ⟨rfl, rfl, rfl⟩ := trodAll_nil r1
  obtain rfl : args = #[v0, v1] := by cases args; simp_all
  obtain ⟨rfl, rfl⟩ := trodVars_none hV
  obtain ⟨x0, len0, cap0, rfl⟩ := okWide_slice Try.underlying30 (hval 0 30 v0 rfl rfl)
  have k0 := h0
  have lt0 : ∀ x ∈ p0, x.block < W.heap.size := by obtain ⟨m, hm⟩ := k0; exact DataW.trod_lt m _ _ _ hm
  obtain ⟨l0, rfl, i0⟩ : ∃ l : List ByteArray, len0 = l.length ∧ StrsAt W x0 l := by
    obtain ⟨fuel, hf⟩ := h0
    obtain ⟨a, l, cap, e, _, hr⟩ := strs_of (show DataW.trod enc Try.prog W 0 (fun _ => true) true fuel 30 [.slice x0 len0 cap0] = some _ from hf) (lo_each hsz (j := 0) rfl rfl)
    cases e
    exact ⟨l, rfl, hr⟩
  obtain ⟨a1, rfl, rfl, rfl, w1⟩ := open_string Try.underlying9 (hval 1 9 v1 rfl rfl) h1
  have z1 : a1.size ≤ 140737488351232 := by
    have := sized_string hsz (j := 1) (t := 9) rfl rfl
    simpa [reachBytes] using this
  clear hA0 hval0
  refine (walk x0 cap0 l0 a1 z1 W i0).mono fun e W' ⟨he, bel⟩ => ?_
  subst he
  exact ⟨_, rfl, _, _, _, [], _, [], hW', trodAll_mk1 (shut_bool Try.underlying4 _), (trodAll_cons_mk (Below.trod laidOut (by kernel_rfl) (of_decide_eq_true (by kernel_rfl)) k0 bel lt0) (trodAll_cons_mk (shut_string Try.underlying9 w1) trodAll_mk0)), rfl, bel.frame _, fun h => by cases h⟩

theorem over : Rows.bloomGrowsRow.holds Try.pinned (OpenSpec.ofChange Rows.bloomGrowsSpec) :=
  OpenClaim.holds_of_wide 15 Try.f15 rfl rfl rfl rfl rfl rfl rfl ⟨rfl, rfl, rfl, rfl, rfl⟩ rfl rfl rfl rfl rfl (by kernel_rfl) Try.func15 (by kernel_rfl)
    (of_decide_eq_true (by kernel_rfl)) (by unfold Func.isWrapper; first | (rw [if_pos (by decide +kernel)]; kernel_rfl) | (rw [if_neg (by decide +kernel)]; exact ⟨rfl, rfl⟩))
    (fun os started H enc _ => lifted os started H enc)

end Go.Proofs.Ytbipmeogcmmhhaa.BloomGrows
namespace Go.Proofs.Ytbipmeogcmmhhaa
theorem bloomGrows_holds : Rows.BloomGrowsSaid := BloomGrows.over
#print axioms bloomGrows_holds
end Go.Proofs.Ytbipmeogcmmhhaa

