/-
  P12.3: no entry stands ahead of one of its past; nothing is ahead of itself; of two one at most is ahead of the other one.
  No condition but what the row itself says.
-/
import Derived.Test.YtabongfoeoideaaDgl
namespace Go.Proofs.Ytabongfoeoideaa.DagOrders
open Go.ChangeShapes Go.WideShapes Go.ChangeAt Go.RowKit Go.Pal
open Go.ChangeMaps (open_string shut_string)
set_option linter.unusedVariables false

set_option maxHeartbeats 2000000 in
set_option maxRecDepth 100000 in
theorem walk (a : Option Addr) (cap : Nat) (l : List En) (w : World) (hA : EnsAt w a l) :
    Calls Try.prog 5 #[.slice a l.length cap] w fun e w' => e = .returned (.bool true) ∧ Below w.heap.size w w' := by
  have HG := Lib.hid (greatEn_any w a cap l hA)
  cases hgr : greatEn l with
  | true =>
    rw [hgr] at HG
    clear hgr
    go_enter Try.func5, Try.ntmps5
    go_wp2_with (first | (go_at_call 10; refine HG.out.mono ?_; rintro e w1 ⟨rfl, e9⟩; rw [e9]; clear e9 w1) | (go_at_call 11; refine (awake12 _).mono ?_; rintro e w2 ⟨rfl, b2⟩))
    go_ret
    exact ⟨rfl, b2⟩
  | false =>
  rw [hgr] at HG
  obtain ⟨hl60, hm60⟩ := greatEn_no hgr
  have HM60 := Lib.hid hm60
  have HA := Lib.hid hA
  clear hA hgr hm60
  go_enter Try.func5, Try.ntmps5
  go_wp2_with (first | (go_at_call 10; refine HG.out.mono ?_; rintro e w1 ⟨rfl, e9⟩; rw [e9]; clear e9 w1) | (go_at_call 11; refine (awake12 _).mono ?_; rintro e w2 ⟨rfl, b2⟩; have B2 := Lib.hid b2; clear b2) | (go_at_call 12; refine (snew _).mono ?_; rintro e w3 ⟨rfl, h3, b3⟩; have H3 := Lib.hid h3; have B3 := Lib.hid (B2.out.trans (b3.mono B2.out.size)); clear h3 b3))
  have hB := B2.out.size
  obtain ⟨B, hBe⟩ : ∃ B, B = w2.heap.size := ⟨_, rfl⟩
  rw [← hBe] at H3 hB ⊢
  have HBB := Lib.hid (show Below w.heap.size w w3 from B3.out)
  have HBS := Lib.hid hB
  have h3s : B ≤ w3.heap.size := by obtain ⟨m, mv, h9⟩ := H3.out.at_; exact Nat.le_of_lt h9.blk.lt
  clear hBe B2 B3
  go_loopw [4] (fun j wr => ∃ k : Nat, k ≤ l.length ∧ j = .int .i64 k ∧ DSt wr B B (esOf (l.take k)) ∧ Below w.heap.size w wr ∧ B ≤ wr.heap.size) (fun j _ => l.length - (intOf j).toNat)
  case atStart => exact ⟨0, Nat.zero_le _, rfl, H3.out, HBB.out, h3s⟩
  case round =>
    obtain ⟨k, hk, rfl, hd, hb, hs⟩ := hrel
    have HD := Lib.hid hd
    have HB := Lib.hid hb
    clear hd H3 HBB
    by_cases hlt : k < l.length
    · obtain ⟨b, off, rfl, hbl, hcl⟩ := HA.out.at_ hlt
      have c0 := (hb.cell (p := ⟨b, off + k * 2, none⟩) hbl).trans (hcl 0 (by omega))
      have c1 := (hb.cell (p := ⟨b, off + k * 2 + 1, none⟩) hbl).trans (hcl 1 (by omega))
      simp only [En.cells, List.getElem?_cons_zero, List.getElem?_cons_succ] at c0 c1
      have HADD := Lib.hid (add_at HD.out (HA.out.ok _ (List.getElem_mem hlt)) (HM60.out _ (List.getElem_mem hlt)) hb hs)
      have HTK := Lib.hid (esOf_take l hlt)
      clear hcl hb
      generalize hid : l[k].id = xid at *
      generalize hpr : l[k].par = xpr at *
      generalize l[k].at_ = xat at *
      generalize l[k].cap = xcap at *
      clear hid hpr
      have i1 : (k : Int) < (l.length : Int) := by omega
      have i0' : (0 : Int) ≤ (k : Int) := by omega
      go_wp2
      go_region_law (go_simp; go_at_call 14; refine (HADD.out _ ⟨by rfl, by rfl, by rfl, by rfl⟩).mono ?_; rintro e w4 ⟨rfl, h4, b4⟩; have H4 := Lib.hid h4; have B4 := Lib.hid b4; clear h4 b4; simp only [])
      all_goals
        go_wp2
        go_roundw
        case rel => exact ⟨k + 1, by omega, by go_num, by rw [HTK.out]; exact H4.out, HB.out.trans (B4.out.mono HBS.out), Nat.le_trans hs B4.out.size⟩
        case measure => simp [intOf]; omega
    · obtain rfl : k = l.length := by omega
      rw [List.take_length] at HD
      generalize esOf l = es at *
      have hok := HD.out.ok
      have hol := order_len hok HD.out.ids
      obtain ⟨O, hord, hop, hoz, hlen300, hln⟩ : ∃ O : List ByteArray, (Calls Try.prog 25 #[.pointer (some ⟨B, 0, none⟩)] wr fun e w' => ∃ v, e = .returned v ∧ OwnL w' wr.heap.size v O ∧ Below wr.heap.size wr w') ∧ (∀ i k (hk : k ≤ i) (hi : i < O.length), memB (pastL es (O[k]'(by omega))) (O[i]) = false) ∧ (∀ i (hi : i < O.length), (O[i]).size ≤ maxLen) ∧ O.length ≤ 300 ∧ es.length = O.length := by
        refine ⟨orderL es, sorder HD.out, fun i k hk hi => memF.2 (order_past (i := i) (k := k) hok hk hi), fun i hi => ?_, by rw [hol]; exact hok.len, hol.symm⟩
        obtain ⟨e, he, e2⟩ := List.mem_map.1 (lookE_isSome.1 ((order_odr es).good.2 _ (List.getElem_mem hi)))
        have := hok.size e he
        rw [← e2]; unfold maxLen; omega
      have HLEN := Lib.hid (fun W (hb : Below wr.heap.size wr W) => slen (HD.out.new hb))
      rw [hln] at HLEN
      have HORD := Lib.hid hord
      have HOP := Lib.hid hop
      have HOZ := Lib.hid hoz
      clear hlt hb hok hol hord hop hoz hln
      go_wp2_with (first
        | (go_at_call 25; refine HORD.out.mono ?_; rintro e w5 ⟨v5, rfl, h5, b5⟩; obtain ⟨p5, c5, rfl, _⟩ := h5.form; have H5 := Lib.hid h5; have HB5 := Lib.hid b5; clear h5 b5)
        | (go_at_call 17; refine (HLEN.out w5 HB5.out).mono ?_; rintro e w' ⟨rfl, e9⟩; rw [e9]; clear e9 w'))
      have HAH := Lib.hid (fun i k (hki : k ≤ i) (hi : i < O.length) W wx (hW : Below w5.heap.size w5 W) (hd : Drawn W wx) => by
        have hb1 : Below w5.heap.size w5 wx := hW.trans (hd.below _)
        have := sahead (HD.out.new (HB5.out.trans (hb1.mono HB5.out.size))) (HOZ.out i hi) (HOZ.out k (by omega))
        rw [HOP.out i k hki hi] at this
        exact (this.mono (fun e w' h => ⟨h.1, hb1.trans (h.2.mono hb1.size)⟩) : Calls Try.prog 27 #[.pointer (some ⟨B, 0, none⟩), .string O[i], .string (O[k]'(by omega))] wx fun e w' => e = .returned (.bool false) ∧ Below w5.heap.size w5 w'))
      have HBW := Lib.hid (show Below w.heap.size w w5 from HB.out.trans (HB5.out.mono HB.out.size))
      clear HLEN HORD
      go_loopw [6] (fun j wr => ∃ i : Nat, i ≤ O.length ∧ j = .int .i64 i ∧ Below w5.heap.size w5 wr) (fun j _ => O.length - (intOf j).toNat)
      case atStart => exact ⟨0, Nat.zero_le _, rfl, Below.refl _ _⟩
      case round =>
        obtain ⟨i, hi, rfl, hbi⟩ := hrel
        by_cases hil : i < O.length
        · have i3 : (i : Int) < (O.length : Int) := by omega
          have HBI := Lib.hid hbi
          clear hbi
          go_wp2
          rename World => wi0
          go_loopw [7] (fun j wr => ∃ k : Nat, k ≤ i + 1 ∧ j = .int .i64 k ∧ Below w5.heap.size w5 wr) (fun j _ => i + 1 - (intOf j).toNat)
          case atStart => exact ⟨0, Nat.zero_le _, rfl, HBI.out⟩
          case round =>
            obtain ⟨k, hk, rfl, hbk⟩ := hrel
            by_cases hkl : k ≤ i
            · have k3 : (k : Int) ≤ (i : Int) := by omega
              have k4 : (0 : Int) ≤ (k : Int) := by omega
              have i4 : (0 : Int) ≤ (i : Int) := by omega
              have k5 : (k : Int) < (O.length : Int) := by omega
              obtain ⟨g, rfl, hg, hcell⟩ := row_cell12 H5.out (by omega)
              have ci := (hbk.cell (p := ⟨g, i, none⟩) hg).trans (hcell i hil)
              have ck := (hbk.cell (p := ⟨g, k, none⟩) hg).trans (hcell k (by omega))
              have HC := Lib.hid (fun wx hd => HAH.out i k hkl hil wr wx hbk hd)
              clear hcell hbk
              generalize hoi : O[i] = oi at *
              generalize hok : O[k]'(by omega) = ok at *
              clear hoi hok
              go_wp2
              go_region_law (go_simp; go_at_call 27; refine (HC.out _ ⟨by rfl, by rfl, by rfl, by rfl⟩).mono ?_; rintro e w6 ⟨rfl, b6⟩; have HB6 := Lib.hid b6; clear b6; simp only [])
              all_goals
                go_wp2
                go_roundw
                case rel => exact ⟨k + 1, by omega, by go_num, HB6.out⟩
                case measure => simp [intOf]; omega
            · have k3 : ¬ ((k : Int) ≤ (i : Int)) := by omega
              have HBK := Lib.hid hbk
              clear hbk
              go_wp2
              go_roundw
              case rel => exact ⟨i + 1, by omega, by go_num, HBK.out⟩
              case measure => simp [intOf]; omega
        · obtain rfl : i = O.length := by omega
          have HBI := Lib.hid hbi
          clear hbi
          go_wp2
          go_ret
          exact ⟨rfl, HBW.out.trans (HBI.out.mono HBW.out.size)⟩

theorem own : ownKnob Try.prog.godebug = none := by kernel_rfl
theorem laidOut : laidOutB Try.prog = true := by kernel_rfl

set_option maxRecDepth 100000 in
theorem lifted (os : Os) (started : os.Started) (H : Type) (enc : TypeId × Value → H) :
    ReturnsInHanded {} Try.checked os 5 .any (Rows.dagOrdersSpec.pre6 enc Try.prog Try.f5 Rows.dagOrdersRow.domain false) (Rows.dagOrdersSpec.post enc Try.prog Try.f5 false true false false) := by
  refine returnsInHanded_of_change_sized (C := Try.checked) own started (by kernel_rfl) Try.func5
    (ChangeSpec.witness6 (enc := enc) (C := Try.checked) false ⟨#[], #[.slice none 0 0], []⟩ 8 (by kernel_rfl) (by kernel_rfl) (by kernel_rfl) (by kernel_rfl)) ?_
  intro W base args ds gs before hval0 hW _ hsz0 _
  have hsz : (DataW.weightsEach Try.prog (Try.f5.params.toList ++ Rows.dagOrdersSpec.plain.varTypes Try.prog) (ds ++ gs)).all (· ≤ reachBytes) = true := hsz0
  clear hsz0
  have hval : ∀ (j : Nat) t v, Try.f5.params[j]? = some t → args[j]? = some v → Value.okWide Try.prog W .any base t v := hval0
  have hW' := hW
  obtain ⟨p, q, hA0, hV, rfl, hfz, hnd⟩ := hW
  have hA : DataW.TrodAll enc Try.prog W 0 (fun _ => true) true Try.f5.params.toList args.toList ds p := hA0
  rw [Try.params5] at hA hval hsz
  obtain ⟨v0, vs0, d0, ds0, p0, q0, hargs, rfl, rfl, h0, r0⟩ := trodAll_cons hA
  obtain ⟨rfl, rfl, rfl⟩ := trodAll_nil r0
  obtain rfl : args = #[v0] := by cases args; simp_all
  obtain ⟨rfl, rfl⟩ := trodVars_none hV
  obtain ⟨x0, len0, cap0, rfl⟩ := okWide_slice Try.underlying22 (hval 0 22 v0 rfl rfl)
  have k0 := h0
  have lt0 : ∀ x ∈ p0, x.block < W.heap.size := by obtain ⟨m, hm⟩ := k0; exact DataW.trod_lt m _ _ _ hm
  obtain ⟨l0, rfl, i0⟩ : ∃ l : List En, len0 = l.length ∧ EnsAt W x0 l := by
    obtain ⟨fuel, hf⟩ := h0
    exact ens_of (show DataW.trod enc Try.prog W 0 (fun _ => true) true fuel 22 [.slice x0 len0 cap0] = some _ from hf) (lo_each hsz (j := 0) rfl rfl)
  clear hA0 hval0
  refine (walk x0 cap0 l0  W i0).mono fun e W' ⟨he, bel⟩ => ?_
  subst he
  exact ⟨_, rfl, _, _, _, [], _, [], hW', trodAll_mk1 (shut_bool Try.underlying4 _), (trodAll_cons_mk (Below.trod laidOut (by kernel_rfl) (of_decide_eq_true (by kernel_rfl)) k0 bel lt0) trodAll_mk0), rfl, bel.frame _, fun h => by cases h⟩

theorem over : Rows.dagOrdersRow.holds Try.pinned (OpenSpec.ofChange Rows.dagOrdersSpec) :=
  OpenClaim.holds_of_wide 5 Try.f5 rfl rfl rfl rfl rfl rfl rfl ⟨rfl, rfl, rfl, rfl, rfl⟩ rfl rfl rfl rfl rfl (by kernel_rfl) Try.func5 (by kernel_rfl)
    (of_decide_eq_true (by kernel_rfl)) (by unfold Func.isWrapper; first | (rw [if_pos (by decide +kernel)]; kernel_rfl) | (rw [if_neg (by decide +kernel)]; exact ⟨rfl, rfl⟩))
    (fun os started H enc _ => lifted os started H enc)

end Go.Proofs.Ytabongfoeoideaa.DagOrders
namespace Go.Proofs.Ytabongfoeoideaa
theorem dagOrders_holds : Rows.DagOrdersSaid := DagOrders.over
#print axioms dagOrders_holds
end Go.Proofs.Ytabongfoeoideaa

