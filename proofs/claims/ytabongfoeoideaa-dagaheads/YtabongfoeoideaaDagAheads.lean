/-
  P12.2: whether any entry is ahead of any other one: by the document.
  No condition but what the row itself says.
-/
import Derived.Test.YtabongfoeoideaaB30
namespace Go.Proofs.Ytabongfoeoideaa.DagAheads
open Go.ChangeShapes Go.WideShapes Go.ChangeAt Go.RowKit Go.Pal
open Go.ChangeMaps (open_string shut_string)
set_option linter.unusedVariables false
theorem has_past {w : World} {base : Nat} {p : Option Addr} {n c : Nat} {es : List (ByteArray × List ByteArray)} (hok : DagOk es) {y : ByteArray} (h : OwnL w base (.slice p n c) (riseL (pastL es y))) (x : ByteArray) (W : World) (hd : Drawn w W) :
    Calls Try.prog 28 #[.slice p n c, .string x] W fun e w' => e = .returned (.bool (memB (pastL es y) x)) ∧ w' = W := by
  obtain ⟨p', c', e9, hr⟩ := h.form
  cases e9
  have := rhas_any (cap := c) (hr.below (hd.below w.heap.size)) (past_len hok y) x
  rw [show memB (riseL (pastL es y)) x = memB (pastL es y) x by rw [Bool.eq_iff_iff, memB_iff, memB_iff, mem_rise]] at this
  exact this
set_option maxHeartbeats 4000000 in
set_option maxRecDepth 100000 in
theorem walk (a : Option Addr) (cap : Nat) (l : List En) (s1 s2 : ByteArray) (hz1 : s1.size ≤ 140737488351232) (hz2 : s2.size ≤ 140737488351232) (w : World) (hA : EnsAt w a l) :
    Calls Try.prog 4 #[.slice a l.length cap, .string s1, .string s2] w fun e w' => e = .returned (.bool true) ∧ Below w.heap.size w w' := by
  have HZ1 := Lib.hid (show s1.size ≤ maxLen by unfold maxLen; omega)
  have HZ2 := Lib.hid (show s2.size ≤ maxLen by unfold maxLen; omega)
  clear hz1 hz2
  have HG := Lib.hid (greatEn_any w a cap l hA)
  cases hgr : greatEn l with
  | true =>
    rw [hgr] at HG
    clear hgr
    go_enter Try.func4, Try.ntmps4
    go_wp2_with (first | (go_at_call 10; refine HG.out.mono ?_; rintro e w1 ⟨rfl, e9⟩; rw [e9]; clear e9 w1) | (go_at_call 11; refine (awake12 _).mono ?_; rintro e w2 ⟨rfl, b2⟩))
    go_ret
    exact ⟨rfl, b2⟩
  | false =>
  rw [hgr] at HG
  obtain ⟨hl60, hm60⟩ := greatEn_no hgr
  have HM60 := Lib.hid hm60
  have HA := Lib.hid hA
  clear hA hgr hm60
  go_enter Try.func4, Try.ntmps4
  go_wp2_with (first | (go_at_call 10; refine HG.out.mono ?_; rintro e w1 ⟨rfl, e9⟩; rw [e9]; clear e9 w1) | (go_at_call 11; refine (awake12 _).mono ?_; rintro e w2 ⟨rfl, b2⟩; have B2 := Lib.hid b2; clear b2) | (go_at_call 12; refine (snew _).mono ?_; rintro e w3 ⟨rfl, h3, b3⟩; have H3 := Lib.hid (Two.start h3); have B3 := Lib.hid (B2.out.trans (b3.mono B2.out.size)); have B3s := Lib.hid b3.size; clear h3 b3))
  have hB := B2.out.size
  obtain ⟨B, hBe⟩ : ∃ B, B = w2.heap.size := ⟨_, rfl⟩
  rw [← hBe] at H3 hB B3s ⊢
  have HBB := Lib.hid (show Below w.heap.size w w3 from B3.out)
  have HBS := Lib.hid hB
  have h3s := B3s.out
  clear hBe B2 B3 B3s
  go_loopw [8, 9] (fun v8 j wr => ∃ (k : Nat) (a2 : Option Addr) (c2 : Nat) (m : List En), k ≤ l.length ∧ j = .int .i64 k ∧ v8 = .slice a2 m.length c2 ∧ Two wr B B a2 c2 m (esOf (l.take k)) ∧ Below w.heap.size w wr ∧ B ≤ wr.heap.size) (fun _ j _ => l.length - (intOf j).toNat)
  case atStart => exact ⟨0, none, 0, [], Nat.zero_le _, rfl, rfl, H3.out, HBB.out, h3s⟩
  case round =>
    obtain ⟨k, a2, c2, m, hk, rfl, rfl, hd, hb, hs⟩ := hrel
    have HD := Lib.hid hd
    have HB := Lib.hid hb
    clear hd H3 HBB
    by_cases hlt : k < l.length
    · skip
      obtain ⟨b, off, rfl, hbl, hcl⟩ := HA.out.at_ hlt
      have c0 := (hb.cell (p := ⟨b, off + k * 2, none⟩) hbl).trans (hcl 0 (by omega))
      have c1 := (hb.cell (p := ⟨b, off + k * 2 + 1, none⟩) hbl).trans (hcl 1 (by omega))
      simp only [En.cells, List.getElem?_cons_zero, List.getElem?_cons_succ] at c0 c1
      have HC0 := Lib.hid (show ∀ W, Below w.heap.size w W → W.cell? ⟨b, off + k * 2, none⟩ = some (.string l[k].id) ∧ W.cell? ⟨b, off + k * 2 + 1, none⟩ = some (.slice l[k].at_ l[k].par.length l[k].cap) from fun W hW => ⟨(hW.cell (p := ⟨b, off + k * 2, none⟩) hbl).trans (hcl 0 (by omega)), (hW.cell (p := ⟨b, off + k * 2 + 1, none⟩) hbl).trans (hcl 1 (by omega))⟩)
      have hokk := HA.out.ok _ (List.getElem_mem hlt)
      have hp60 := HM60.out _ (List.getElem_mem hlt)
      have HR := Lib.hid (two_radd HD.out hokk hp60 hb hs)
      have HADD := Lib.hid (fun (W : World) (a3 : Option Addr) (k3 : Nat) (m3 : List En) (h : Half W B B a3 k3 m3 (esOf (l.take k)) (addE (esOf (l.take k)) l[k].id l[k].par)) (hW : Below w.heap.size w W) (hBW : B ≤ W.heap.size) wx hd => two_dadd (W := w) (wr := W) (B := B) (G := B) h hokk hp60 hW hBW wx hd)
      have HTK := Lib.hid (esOf_take l hlt)
      clear hb hokk hp60
      clear hcl
      generalize hid : l[k].id = xid at *
      generalize hpr : l[k].par = xpr at *
      generalize l[k].at_ = xat at *
      generalize l[k].cap = xcap at *
      clear hid hpr
      have i1 : (k : Int) < (l.length : Int) := by omega
      have i0' : (0 : Int) ≤ (k : Int) := by omega
      go_wp2
      go_region_law (go_simp; go_at_call 13; refine (HR.out _ ⟨by rfl, by rfl, by rfl, by rfl⟩).mono ?_; rintro e w4 ⟨a4, k4, m4, rfl, h4, b4⟩; have H4 := Lib.hid h4; have B4 := Lib.hid b4; clear h4 b4; simp only [])
      all_goals
        have HW4 := Lib.hid (HB.out.trans (B4.out.mono HB.out.size))
        have hs4 : B ≤ w4.heap.size := Nat.le_trans hs B4.out.size
        have HA4 := Lib.hid (HADD.out w4 a4 k4 m4 H4.out HW4.out hs4)
        obtain ⟨d0, d1⟩ := HC0.out w4 HW4.out
        clear c0 c1
        go_wp2
        go_region_law (go_simp; go_at_call 14; refine (HA4.out _ ⟨by rfl, by rfl, by rfl, by rfl⟩).mono ?_; rintro e w5 ⟨rfl, h5, b5⟩; have H5 := Lib.hid h5; have B5 := Lib.hid b5; clear h5 b5; simp only [])
        all_goals
          rw [← HTK.out] at H5
          have HW5 := Lib.hid (HW4.out.trans (B5.out.mono HBS.out))
          have hs5 : B ≤ w5.heap.size := Nat.le_trans hs4 B5.out.size
          clear d0 d1 HA4 H4 HADD HR
          go_wp2
          go_roundw
          case rel => exact ⟨k + 1, a4, k4, m4, by omega, by go_num, rfl, H5.out, HW5.out, hs5⟩
          case measure => simp [intOf]; omega
    · obtain rfl : k = l.length := by omega
      rw [List.take_length] at HD
      clear hb hlt
      generalize esOf l = es at *
      have hml : m.length ≤ 300 := by have := HD.out.len; omega
      have HE := Lib.hid HD.out.ens
      have HIZ := Lib.hid (fun k (hk : k < m.length) => show (m[k]).id.size ≤ maxLen by have := (HE.out.ok _ (List.getElem_mem hk)).id; unfold maxLen; omega)
      have QA := Lib.hid (fun x (hx : x.size ≤ maxLen) y (hy : y.size ≤ maxLen) W (hW : Below wr.heap.size wr W) => show Calls Try.prog 27 #[.pointer (some ⟨B, 0, none⟩), .string x, .string y] W fun e w' => e = .returned (.bool (memB (pastL es y) x)) ∧ Below wr.heap.size wr w' from
        (sahead (HD.out.new hW).dst hx hy).mono (fun e w' h => ⟨h.1, hW.trans (h.2.mono hW.size)⟩))
      have QP := Lib.hid (fun y W (hW : Below wr.heap.size wr W) => show Calls Try.prog 22 #[.slice a2 m.length c2, .string y] W fun e w' => ∃ v, e = .returned v ∧ OwnL w' W.heap.size v (riseL (pastL es y)) ∧ Below wr.heap.size wr w' from
        (two_past (HD.out.new hW) y).mono (fun e w' ⟨v, h1, h2, h3⟩ => ⟨v, h1, h2, hW.trans (h3.mono hW.size)⟩))
      have OKE := Lib.hid HD.out.dst.ok
      obtain ⟨W0, hW0⟩ : ∃ W0, W0 = wr := ⟨_, rfl⟩
      rw [← hW0] at QA QP HE HB ⊢
      clear hW0
      go_wp2
      go_loopw [10] (fun j wr => ∃ i : Nat, i ≤ m.length ∧ j = .int .i64 i ∧ Below W0.heap.size W0 wr) (fun j _ => m.length - (intOf j).toNat)
      case atStart => exact ⟨0, Nat.zero_le _, rfl, Below.refl _ _⟩
      case round =>
        obtain ⟨i, hi, rfl, hbi⟩ := hrel
        by_cases hil : i < m.length
        · have HBI := Lib.hid hbi
          have i3 : (i : Int) < (m.length : Int) := by omega
          clear hbi
          go_wp2
          rename World => wi0
          go_loopw [11] (fun j wr => ∃ n : Nat, n ≤ m.length ∧ j = .int .i64 n ∧ Below W0.heap.size W0 wr) (fun j _ => m.length - (intOf j).toNat)
          case atStart => exact ⟨0, Nat.zero_le _, rfl, HBI.out⟩
          case round =>
            obtain ⟨n, hn, rfl, hbn⟩ := hrel
            by_cases hnl : n < m.length
            · obtain ⟨b, off, rfl, hbl, ci, _⟩ := cells_en HE.out hil
              obtain ⟨b', off', e9, _, ck, _⟩ := cells_en HE.out hnl
              obtain ⟨rfl, rfl⟩ : b' = b ∧ off' = off := by cases e9; exact ⟨rfl, rfl⟩
              have q1 := (hbn.cell (p := ⟨b', off' + i * 2, none⟩) hbl).trans ci
              have q2 := (hbn.cell (p := ⟨b', off' + n * 2, none⟩) hbl).trans ck
              have hxz := HIZ.out i hil
              have hyz := HIZ.out n hnl
              have n3 : (n : Int) < (m.length : Int) := by omega
              have n0 : (0 : Int) ≤ (n : Int) := by omega
              have i0 : (0 : Int) ≤ (i : Int) := by omega
              clear e9
              generalize m[i].id = x at *
              generalize m[n].id = y at *
              have QA1 := Lib.hid (QA.out x hxz y hyz)
              have QP1 := Lib.hid (QP.out y)
              clear hxz hyz
              have bdr := hbn.drew
              go_wp2
              go_region_held3 (fun w' => w'.cell? ⟨b', off' + i * 2, none⟩ = some (.string x) ∧ w'.cell? ⟨b', off' + n * 2, none⟩ = some (.string y) ∧ Below W0.heap.size W0 w')
                (first | exact ⟨(b8.cell (p := ⟨b', off' + i * 2, none⟩) hbl).trans ci, (b8.cell (p := ⟨b', off' + n * 2, none⟩) hbl).trans ck, b8⟩ | exact ⟨(b7.cell (p := ⟨b', off' + i * 2, none⟩) hbl).trans ci, (b7.cell (p := ⟨b', off' + n * 2, none⟩) hbl).trans ck, b7⟩ | exact ⟨(b6.cell (p := ⟨b', off' + i * 2, none⟩) hbl).trans ci, (b6.cell (p := ⟨b', off' + n * 2, none⟩) hbl).trans ck, b6⟩ | exact ⟨q1, q2, bdr⟩ | exact ⟨q1, q2, hbn⟩ | exact bdr | exact b8 | exact b7 | exact b6 | go_keep)
                (first
                | ((go_at_call 27; refine (QA1.out _ (by first | exact bdr | exact hbn | assumption)).mono ?_; rintro e w6 ⟨rfl, b6⟩))
                | ((go_at_call 22; refine (QP1.out _ (by first | exact b6 | assumption)).mono ?_; rintro e w7 ⟨v7, rfl, h7, b7⟩; obtain ⟨p7, c7, rfl, _⟩ := h7.form; have H7 := Lib.hid h7; clear h7))
                | ((go_at_call 28; refine (has_past OKE.out H7.out x _ ⟨by rfl, by rfl, by rfl, by rfl⟩).mono ?_; rintro e w8 ⟨rfl, e9⟩; rw [e9]; clear e9 w8)))
              go_wp2
              go_roundw
              case rel => exact ⟨n + 1, by omega, by go_num, b7⟩
              case measure => simp [intOf]; omega
            · obtain rfl : n = m.length := by omega
              have HBN := Lib.hid hbn
              clear hbn
              go_wp2
              go_roundw
              case rel => exact ⟨i + 1, by omega, by go_num, HBN.out⟩
              case measure => simp [intOf]; omega
        · obtain rfl : i = m.length := by omega
          have HBI := Lib.hid hbi
          have QA1 := Lib.hid (QA.out s1 HZ1.out s2 HZ2.out)
          have QP1 := Lib.hid (QP.out s2)
          have OKH := Lib.hid (fun (w : World) (base : Nat) (p : Option Addr) (n c : Nat) (h : OwnL w base (.slice p n c) (riseL (pastL es s2))) => has_past OKE.out h s1 w ⟨rfl, rfl, rfl, rfl⟩)
          clear hbi
          generalize memB (pastL es s2) s1 = r at *
          go_wp2_with (first
            | (go_at_call 27; refine (QA1.out _ HBI.out).mono ?_; rintro e w6 ⟨rfl, b6⟩; have B6 := Lib.hid b6; clear b6)
            | (go_at_call 22; refine (QP1.out w6 B6.out).mono ?_; rintro e w7 ⟨v7, rfl, h7, b7⟩; obtain ⟨p7, c7, rfl, _⟩ := h7.form; have H7 := Lib.hid h7; have B7 := Lib.hid b7; clear h7 b7)
            | (go_at_call 28; refine (OKH.out _ _ _ _ _ H7.out).mono ?_; rintro e w' ⟨rfl, e9⟩; rw [e9]; clear e9 w'))
          go_ret
          exact ⟨rfl, HB.out.trans (B7.out.mono HB.out.size)⟩

theorem own : ownKnob Try.prog.godebug = none := by kernel_rfl
theorem laidOut : laidOutB Try.prog = true := by kernel_rfl

set_option maxRecDepth 100000 in
theorem lifted (os : Os) (started : os.Started) (H : Type) (enc : TypeId × Value → H) :
    ReturnsInHanded {} Try.checked os 4 .any (Rows.dagAheadsSpec.pre6 enc Try.prog Try.f4 Rows.dagAheadsRow.domain false) (Rows.dagAheadsSpec.post enc Try.prog Try.f4 false true false false) := by
  refine returnsInHanded_of_change_sized (C := Try.checked) own started (by kernel_rfl) Try.func4
    (ChangeSpec.witness6 (enc := enc) (C := Try.checked) false ⟨#[], #[.slice none 0 0, .string ByteArray.empty, .string ByteArray.empty], []⟩ 8 (by kernel_rfl) (by kernel_rfl) (by kernel_rfl) (by kernel_rfl)) ?_
  intro W base args ds gs before hval0 hW _ hsz0 _
  have hsz : (DataW.weightsEach Try.prog (Try.f4.params.toList ++ Rows.dagAheadsSpec.plain.varTypes Try.prog) (ds ++ gs)).all (· ≤ reachBytes) = true := hsz0
  clear hsz0
  have hval : ∀ (j : Nat) t v, Try.f4.params[j]? = some t → args[j]? = some v → Value.okWide Try.prog W .any base t v := hval0
  have hW' := hW
  obtain ⟨p, q, hA0, hV, rfl, hfz, hnd⟩ := hW
  have hA : DataW.TrodAll enc Try.prog W 0 (fun _ => true) true Try.f4.params.toList args.toList ds p := hA0
  rw [Try.params4] at hA hval hsz
  obtain ⟨v0, vs0, d0, ds0, p0, q0, hargs, rfl, rfl, h0, r0⟩ := trodAll_cons hA
  obtain ⟨v1, vs1, d1, ds1, p1, q1, rfl, rfl, rfl, h1, r1⟩ := trodAll_cons r0
  obtain ⟨v2, vs2, d2, ds2, p2, q2, rfl, rfl, rfl, h2, r2⟩ := trodAll_cons r1
  obtain ⟨rfl, rfl, rfl⟩ := trodAll_nil r2
  obtain rfl : args = #[v0, v1, v2] := by cases args; simp_all
  obtain ⟨rfl, rfl⟩ := trodVars_none hV
  obtain ⟨x0, len0, cap0, rfl⟩ := okWide_slice Try.underlying22 (hval 0 22 v0 rfl rfl)
  have k0 := h0
  have lt0 : ∀ x ∈ p0, x.block < W.heap.size := by obtain ⟨m, hm⟩ := k0; exact DataW.trod_lt m _ _ _ hm
  obtain ⟨l0, rfl, i0⟩ : ∃ l : List En, len0 = l.length ∧ EnsAt W x0 l := by
    obtain ⟨fuel, hf⟩ := h0
    exact ens_of (show DataW.trod enc Try.prog W 0 (fun _ => true) true fuel 22 [.slice x0 len0 cap0] = some _ from hf) (lo_each hsz (j := 0) rfl rfl)
  obtain ⟨a1, rfl, rfl, rfl, w1⟩ := open_string Try.underlying9 (hval 1 9 v1 rfl rfl) h1
  have z1 : a1.size ≤ 140737488351232 := by
    have := sized_string hsz (j := 1) (t := 9) rfl rfl
    simpa [reachBytes] using this
  obtain ⟨a2, rfl, rfl, rfl, w2⟩ := open_string Try.underlying9 (hval 2 9 v2 rfl rfl) h2
  have z2 : a2.size ≤ 140737488351232 := by
    have := sized_string hsz (j := 2) (t := 9) rfl rfl
    simpa [reachBytes] using this
  clear hA0 hval0
  refine (walk x0 cap0 l0 a1 a2 z1 z2 W i0).mono fun e W' ⟨he, bel⟩ => ?_
  subst he
  exact ⟨_, rfl, _, _, _, [], _, [], hW', trodAll_mk1 (shut_bool Try.underlying4 _), (trodAll_cons_mk (Below.trod laidOut (by kernel_rfl) (of_decide_eq_true (by kernel_rfl)) k0 bel lt0) (trodAll_cons_mk (shut_string Try.underlying9 w1) (trodAll_cons_mk (shut_string Try.underlying9 w2) trodAll_mk0))), rfl, bel.frame _, fun h => by cases h⟩

theorem over : Rows.dagAheadsRow.holds Try.pinned (OpenSpec.ofChange Rows.dagAheadsSpec) :=
  OpenClaim.holds_of_wide 4 Try.f4 rfl rfl rfl rfl rfl rfl rfl ⟨rfl, rfl, rfl, rfl, rfl⟩ rfl rfl rfl rfl rfl (by kernel_rfl) Try.func4 (by kernel_rfl)
    (of_decide_eq_true (by kernel_rfl)) (by unfold Func.isWrapper; first | (rw [if_pos (by decide +kernel)]; kernel_rfl) | (rw [if_neg (by decide +kernel)]; exact ⟨rfl, rfl⟩))
    (fun os started H enc _ => lifted os started H enc)

end Go.Proofs.Ytabongfoeoideaa.DagAheads
namespace Go.Proofs.Ytabongfoeoideaa
theorem dagAheads_holds : Rows.DagAheadsSaid := DagAheads.over
#print axioms dagAheads_holds
end Go.Proofs.Ytabongfoeoideaa

