/-
  P12.1: there are at most 300 entries; one more is refused, and changes nothing.
  No condition but what the row itself says.
-/
import Derived.Test.YtabongfoeoideaaDgN
namespace Go.Proofs.Ytabongfoeoideaa.DagFull
open Go.ChangeShapes Go.WideShapes Go.ChangeAt Go.RowKit Go.Pal
open Go.ChangeMaps (open_string shut_string)
set_option linter.unusedVariables false
def chE (i : Nat) : List (ByteArray × List ByteArray) := chain (min i 300)
theorem chE_add {i : Nat} (h : i < 300) : addC (chE i) (nm i) (chPar i) = 0 ∧ addE (chE i) (nm i) (chPar i) = chE (i + 1) := by
  unfold chE; rw [Nat.min_eq_left (by omega), Nat.min_eq_left (by omega)]; exact ⟨chain_addC h, chain_addE h⟩
theorem chE_full {i : Nat} (h : 300 ≤ i) (h4 : i < 400) (ps : List ByteArray) : addC (chE i) (nm i) ps = 3 ∧ addE (chE i) (nm i) ps = chE (i + 1) := by
  unfold chE; rw [Nat.min_eq_right h, Nat.min_eq_right (by omega)]; exact chain_full h h4 ps
theorem full_add {wr : World} {base i : Nat} {ps : List ByteArray} {c : Int} (hD : DSt wr base base (chE i)) (hbs : base ≤ wr.heap.size) (hc : addC (chE i) (nm i) ps = c ∧ addE (chE i) (nm i) ps = chE (i + 1)) (hp : ps = [] ∨ ps = [nm (i - 1)]) (W : World) (hW : Below wr.heap.size wr W) (a : Option Addr) (cap : Nat) (hr : StrRow W a ps) :
    Calls Try.prog 14 #[.pointer (some ⟨base, 0, none⟩), .string (nm i), .slice a ps.length cap] W fun e w' => e = .returned (.int .i64 c) ∧ DSt w' base base (chE (i + 1)) ∧ Below base W w' := by
  have := sadd (hD.new hW) (Nat.le_trans hbs hW.size) (nm i) cap hr (by rcases hp with rfl | rfl <;> simp) (by rcases hp with rfl | rfl <;> simp [nm_size])
  rw [hc.1, hc.2] at this; exact this
theorem full_two {wr : World} {base i : Nat} {c : Int} (hD : DSt wr base base (chE i)) (hbs : base ≤ wr.heap.size) (hc : addC (chE i) (nm i) [nm (i - 1)] = c ∧ addE (chE i) (nm i) [nm (i - 1)] = chE (i + 1)) (w4 : World) (hW : Below wr.heap.size wr w4) (W : World) (h5 : Below (w4.alloc (.cells #[.string (nm (i - 1))] 9)).heap.size (w4.alloc (.cells #[.string (nm (i - 1))] 9)) W) :
    Calls Try.prog 14 #[.pointer (some ⟨base, 0, none⟩), .string (nm i), .slice (some ⟨w4.heap.size, 0, none⟩) 1 1] W fun e w' => e = .returned (.int .i64 c) ∧ DSt w' base base (chE (i + 1)) ∧ Below base wr w' := by
  have hs := hW.size
  have hb : Below wr.heap.size wr W := (hW.alloc hs _).trans (h5.mono (by simp; omega))
  refine (full_add hD hbs hc (.inr rfl) W hb (some ⟨w4.heap.size, 0, none⟩) 1 ((new_row w4 [nm (i - 1)]).below h5)).mono ?_
  rintro e w' ⟨rfl, h1, h2⟩
  exact ⟨rfl, h1, (hb.mono hbs).trans h2⟩
theorem name_int (n : Int) (h0 : 0 ≤ n) (h1 : n < 400) (w : World) : Calls Try.prog 30 #[.int .i64 n] w fun e w' => ∃ s, e = .returned (.string s) ∧ s = nm n.toNat ∧ Below w.heap.size w w' := by
  obtain ⟨i, rfl⟩ := Int.eq_ofNat_of_zero_le h0
  refine (name_any (i := i) (by omega) w).mono ?_
  rintro e w' ⟨rfl, hb⟩
  exact ⟨_, rfl, rfl, hb⟩
set_option maxHeartbeats 2000000 in
set_option maxRecDepth 100000 in
theorem walk (n : Int) (hn : (Lit.int .u16 n).wf = true) (w : World) :
    Calls Try.prog 8 #[.int .u16 n] w fun e w' => e = .returned (.bool true) ∧ Below w.heap.size w w' := by
  have hn0 := bounds_u16 hn
  go_enter Try.func8, Try.ntmps8
  go_wp2_with (go_at_call 12; refine (snew _).mono ?_; rintro e w3 ⟨rfl, h3, b3⟩; have H3 := Lib.hid h3; have B3 := Lib.hid b3; clear h3 b3)
  obtain ⟨K, hK⟩ : ∃ K : Nat, 295 + n % 10 = (K : Int) := ⟨(295 + n % 10).toNat, by omega⟩
  rw [hK]
  have hK1 : 295 ≤ K := by omega
  have hK2 : K < 305 := by omega
  clear hK hn0
  have h3s : w.heap.size ≤ w3.heap.size := B3.out.size
  have H0 := Lib.hid (show DSt w3 w.heap.size w.heap.size (chE 0) from H3.out)
  clear H3
  go_loopw [5] (fun j wr => ∃ i : Nat, i ≤ K ∧ j = .int .i64 i ∧ DSt wr w.heap.size w.heap.size (chE i) ∧ Below w.heap.size w wr) (fun j _ => K - (intOf j).toNat)
  case atStart => exact ⟨0, Nat.zero_le _, rfl, H0.out, B3.out⟩
  case round =>
    obtain ⟨i, hi, rfl, hd, hb⟩ := hrel
    have HD := Lib.hid hd
    have HB := Lib.hid hb
    have hbs := hb.size
    have HNM := Lib.hid name_int
    have fin : ∀ w5, DSt w5 w.heap.size w.heap.size (chE (i + 1)) → Below w.heap.size wr w5 → DSt w5 w.heap.size w.heap.size (chE (i + 1)) ∧ Below w.heap.size w w5 := fun w5 h1 h2 => ⟨h1, HB.out.trans h2⟩
    have FIN := Lib.hid fin
    clear hd hb H0 B3 fin
    by_cases hik : i < K
    · have hiki : (i : Int) < (K : Int) := by omega
      by_cases h0 : i = 0
      · subst h0
        have HAD := Lib.hid (full_add HD.out hbs (c := 0) (ps := []) (chE_add (i := 0) (by omega)) (.inl rfl))
        go_wp2_with (first
          | (go_at_call 30; refine (HNM.out _ (by omega) (by omega) _).mono ?_; rintro e w4 ⟨s4, rfl, hs4, b4⟩; obtain rfl : s4 = nm 0 := hs4; have B4 := Lib.hid b4; clear b4)
          | (go_at_call 14; refine (HAD.out w4 B4.out none 0 (.inl rfl)).mono ?_; rintro e w5 ⟨rfl, h5, b5⟩; have F5 := Lib.hid (FIN.out w5 h5 ((B4.out.mono hbs).trans b5)); clear h5 b5))
        exact ⟨⟨0 + 1, by omega, by go_num, F5.out.1, F5.out.2⟩, by simp [intOf]; omega⟩
      · have h0i : (0 : Int) < (i : Int) := by omega
        have hm1 : (i : Int) - 1 = ((i - 1 : Nat) : Int) := by omega
        by_cases h3 : i ≤ 300
        · have h3i : (i : Int) ≤ 300 := by omega
          have hp : [nm (i - 1)] = chPar i := by unfold chPar; rw [if_neg h0]
          by_cases hlt : i < 300
          · have hlti : (i : Int) < 300 := by omega
            have HAD := Lib.hid (full_two HD.out hbs (c := 0) (by rw [hp]; exact chE_add hlt))
            clear hp
            clear hm1
            go_wp2_with (first
              | (go_at_call 30; have hq4 := B4.out; clear hq4; refine (HNM.out _ (by omega) (by omega) _).mono ?_; rintro e w5 ⟨s5, rfl, hs5, b5⟩; obtain rfl : s5 = nm i := hs5; have B5 := Lib.hid b5; clear b5)
              | (go_at_call 30; refine (HNM.out _ (by omega) (by omega) _).mono ?_; rintro e w4 ⟨s4, rfl, hs4, b4⟩; obtain rfl : s4 = nm (i - 1) := hs4.trans (congrArg nm (by omega)); have B4 := Lib.hid b4; clear b4)
              | (go_at_call 14; refine (HAD.out w4 B4.out w5 B5.out).mono ?_; rintro e w6 ⟨rfl, h6, b6⟩; have F6 := Lib.hid (FIN.out w6 h6 b6); clear h6 b6))
            exact ⟨⟨i + 1, by omega, by go_num, F6.out.1, F6.out.2⟩, by simp [intOf]; omega⟩
          · have hnlt : ¬ ((i : Int) < 300) := by omega
            have hgei : (300 : Int) ≤ (i : Int) := by omega
            have HAD := Lib.hid (full_two HD.out hbs (c := 3) (chE_full (by omega) (by omega) _))
            clear hp hm1
            go_wp2_with (first
              | (go_at_call 30; have hq4 := B4.out; clear hq4; refine (HNM.out _ (by omega) (by omega) _).mono ?_; rintro e w5 ⟨s5, rfl, hs5, b5⟩; obtain rfl : s5 = nm i := hs5; have B5 := Lib.hid b5; clear b5)
              | (go_at_call 30; refine (HNM.out _ (by omega) (by omega) _).mono ?_; rintro e w4 ⟨s4, rfl, hs4, b4⟩; obtain rfl : s4 = nm (i - 1) := hs4.trans (congrArg nm (by omega)); have B4 := Lib.hid b4; clear b4)
              | (go_at_call 14; refine (HAD.out w4 B4.out w5 B5.out).mono ?_; rintro e w6 ⟨rfl, h6, b6⟩; have F6 := Lib.hid (FIN.out w6 h6 b6); clear h6 b6))
            exact ⟨⟨i + 1, by omega, by go_num, F6.out.1, F6.out.2⟩, by simp [intOf]; omega⟩
        · have h3i : ¬ ((i : Int) ≤ 300) := by omega
          have hnlt : ¬ ((i : Int) < 300) := by omega
          have hgei : (300 : Int) ≤ (i : Int) := by omega
          have HAD := Lib.hid (full_add HD.out hbs (c := 3) (ps := []) (chE_full (by omega) (by omega) _) (.inl rfl))
          clear hm1
          go_wp2_with (first
            | (go_at_call 30; refine (HNM.out _ (by omega) (by omega) _).mono ?_; rintro e w4 ⟨s4, rfl, hs4, b4⟩; obtain rfl : s4 = nm i := hs4; have B4 := Lib.hid b4; clear b4)
            | (go_at_call 14; refine (HAD.out w4 B4.out none 0 (.inl rfl)).mono ?_; rintro e w5 ⟨rfl, h5, b5⟩; have F5 := Lib.hid (FIN.out w5 h5 ((B4.out.mono hbs).trans b5)); clear h5 b5))
          exact ⟨⟨i + 1, by omega, by go_num, F5.out.1, F5.out.2⟩, by simp [intOf]; omega⟩
    · obtain rfl : i = K := by omega
      obtain ⟨m, hm⟩ : ∃ m, m = min i 300 := ⟨_, rfl⟩
      have hm2 : 0 < m ∧ m ≤ 300 := by omega
      have HE := HD.out
      unfold chE at HE
      rw [← hm] at HE
      have HO := sorder HE
      have HH := sheads HE
      have HL := slen HE
      have hol := order_len HE.ok HE.ids
      rw [chain_len] at hol HL
      rw [chain_head hm2.1 hm2.2] at HH
      have HO := Lib.hid HO
      have HHH := Lib.hid (fun W (hb : Below wr.heap.size wr W) => show Calls Try.prog 23 #[.pointer (some ⟨w.heap.size, 0, none⟩)] W fun e w' => ∃ p c, e = .returned (.slice p 1 c) ∧ Below W.heap.size W w' from by
        have := sheads (HE.new hb)
        rw [chain_head hm2.1 hm2.2] at this
        refine this.mono ?_
        rintro e w' ⟨v, rfl, h1, h2⟩
        obtain ⟨p, c, rfl, _⟩ := h1.form
        exact ⟨p, c, rfl, h2⟩)
      have HOO := Lib.hid (show Calls Try.prog 25 #[.pointer (some ⟨w.heap.size, 0, none⟩)] wr fun e w' => ∃ p c, e = .returned (.slice p m c) ∧ Below wr.heap.size wr w' from by
        refine HO.out.mono ?_
        rintro e w' ⟨v, rfl, h1, h2⟩
        obtain ⟨p, c, rfl, _⟩ := h1.form
        rw [hol]
        exact ⟨p, c, rfl, h2⟩)
      have HLL := Lib.hid HL
      have HM := Lib.hid hm
      have hki : ¬ ((i : Int) < (i : Int)) := by omega
      have hmin : min (i : Int) 300 = (m : Int) := by omega
      clear HE HO HH HL hol hm hik
      go_wp2_with (first
        | (go_at_call 17; refine HLL.out.mono ?_; rintro e w' ⟨rfl, e9⟩; rw [e9]; clear e9 w')
        | (go_at_call 25; refine HOO.out.mono ?_; rintro e w5 ⟨p5, c5, rfl, b5⟩; have B5 := Lib.hid b5; clear b5)
        | (go_at_call 23; refine (HHH.out w5 B5.out).mono ?_; rintro e w6 ⟨p6, c6, rfl, b6⟩; have B6 := Lib.hid (B5.out.trans (b6.mono B5.out.size)); clear b6)
        | (go_at_call 11; refine (awake12 _).mono ?_; rintro e w7 ⟨rfl, b7⟩; have B7 := Lib.hid (B6.out.trans (b7.mono B6.out.size)); clear b7))
      go_ret
      exact ⟨rfl, HB.out.trans (B7.out.mono hbs)⟩

theorem own : ownKnob Try.prog.godebug = none := by kernel_rfl
theorem laidOut : laidOutB Try.prog = true := by kernel_rfl

set_option maxRecDepth 100000 in
theorem lifted (os : Os) (started : os.Started) (H : Type) (enc : TypeId × Value → H) :
    ReturnsInHanded {} Try.checked os 8 .any (Rows.dagFullSpec.pre6 enc Try.prog Try.f8 Rows.dagFullRow.domain false) (Rows.dagFullSpec.post enc Try.prog Try.f8 false true false false) := by
  refine returnsInHanded_of_change_sized (C := Try.checked) own started (by kernel_rfl) Try.func8
    (ChangeSpec.witness6 (enc := enc) (C := Try.checked) false ⟨#[], #[.int .u16 0], []⟩ 8 (by kernel_rfl) (by kernel_rfl) (by kernel_rfl) (by kernel_rfl)) ?_
  intro W base args ds gs before hval0 hW _ hsz0 _
  have hsz : (DataW.weightsEach Try.prog (Try.f8.params.toList ++ Rows.dagFullSpec.plain.varTypes Try.prog) (ds ++ gs)).all (· ≤ reachBytes) = true := hsz0
  clear hsz0
  have hval : ∀ (j : Nat) t v, Try.f8.params[j]? = some t → args[j]? = some v → Value.okWide Try.prog W .any base t v := hval0
  have hW' := hW
  obtain ⟨p, q, hA0, hV, rfl, hfz, hnd⟩ := hW
  have hA : DataW.TrodAll enc Try.prog W 0 (fun _ => true) true Try.f8.params.toList args.toList ds p := hA0
  rw [Try.params8] at hA hval hsz
  obtain ⟨v0, vs0, d0, ds0, p0, q0, hargs, rfl, rfl, h0, r0⟩ := trodAll_cons hA
  obtain ⟨rfl, rfl, rfl⟩ := trodAll_nil r0
  obtain rfl : args = #[v0] := by cases args; simp_all
  obtain ⟨rfl, rfl⟩ := trodVars_none hV
  obtain ⟨a0, rfl, rfl, rfl, w0⟩ := open_int Try.underlying50 (hval 0 50 v0 rfl rfl) h0
  clear hA0 hval0
  refine (walk a0 w0 W).mono fun e W' ⟨he, bel⟩ => ?_
  subst he
  exact ⟨_, rfl, _, _, _, [], [], [], hW', trodAll_mk1 (shut_bool Try.underlying4 _), (trodAll_cons_mk (shut_int Try.underlying50 w0) trodAll_mk0), rfl, bel.frame _, fun h => by cases h⟩

theorem over : Rows.dagFullRow.holds Try.pinned (OpenSpec.ofChange Rows.dagFullSpec) :=
  OpenClaim.holds_of_wide 8 Try.f8 rfl rfl rfl rfl rfl rfl rfl ⟨rfl, rfl, rfl, rfl, rfl⟩ rfl rfl rfl rfl rfl (by kernel_rfl) Try.func8 (by kernel_rfl)
    (of_decide_eq_true (by kernel_rfl)) (by unfold Func.isWrapper; first | (rw [if_pos (by decide +kernel)]; kernel_rfl) | (rw [if_neg (by decide +kernel)]; exact ⟨rfl, rfl⟩))
    (fun os started H enc _ => lifted os started H enc)

end Go.Proofs.Ytabongfoeoideaa.DagFull
namespace Go.Proofs.Ytabongfoeoideaa
theorem dagFull_holds : Rows.DagFullSaid := DagFull.over
#print axioms dagFull_holds
end Go.Proofs.Ytabongfoeoideaa

