/-
  P12.2: a copy goes on as the dag would, and neither touches the other one; what is told is its asker's own.
  No condition but what the row itself says.
-/
import Derived.Test.YtabongfoeoideaaDgm
namespace Go.Proofs.Ytabongfoeoideaa.DagCopies
open Go.ChangeShapes Go.WideShapes Go.ChangeAt Go.RowKit Go.Pal
open Go.ChangeMaps (open_string shut_string)
set_option linter.unusedVariables false
set_option maxHeartbeats 4000000 in
set_option maxRecDepth 100000 in
theorem walk (a : Option Addr) (cap : Nat) (l : List En) (a2 : Option Addr) (cap2 : Nat) (l2 : List En) (w : World) (hA : EnsAt w a l) (hA2 : EnsAt w a2 l2) :
    Calls Try.prog 7 #[.slice a l.length cap, .slice a2 l2.length cap2] w fun e w' => e = .returned (.bool true) ∧ Below w.heap.size w w' := by
  have HA := Lib.hid hA
  have HA2 := Lib.hid hA2
  have HG := Lib.hid (fun (p : Option Addr) (c : Nat) (m : List En) (h : EnsAt w p m) => greatEn_any w p c m h)
  by_cases hgg : greatEn l = true ∨ greatEn l2 = true
  · have HGF := Lib.hid (fun (p : Option Addr) (c : Nat) (m : List En) (h : EnsAt w p m) (x : Bool) (hm : greatEn m = x) => show Calls Try.prog 10 #[.slice p m.length c] w fun e w' => e = .returned (.bool x) ∧ w' = w from by have := greatEn_any w p c m h; rw [hm] at this; exact this)
    cases hgr : greatEn l with
    | true =>
      have HX := Lib.hid hgr
      clear hgr hA hA2 hgg HG
      go_enter Try.func7, Try.ntmps7
      go_wp2_with (first | (go_at_call 10; refine (HGF.out _ _ _ HA.out true HX.out).mono ?_; rintro e w1 ⟨rfl, e9⟩; rw [e9]; clear e9 w1) | (go_at_call 11; refine (awake12 _).mono ?_; rintro e w2 ⟨rfl, b2⟩))
      go_ret
      exact ⟨rfl, b2⟩
    | false =>
      have h2 : greatEn l2 = true := by rcases hgg with h | h; rw [hgr] at h; cases h; exact h
      have HX := Lib.hid hgr
      have HX2 := Lib.hid h2
      clear hgr h2 hA hA2 hgg HG
      go_enter Try.func7, Try.ntmps7
      go_wp2_with (first | (go_at_call 10; have hq := G1.out; clear hq; refine (HGF.out _ _ _ HA2.out true HX2.out).mono ?_; rintro e w1 ⟨rfl, e9⟩; rw [e9]; clear e9 w1) | (go_at_call 10; refine (HGF.out _ _ _ HA.out false HX.out).mono ?_; rintro e w1 ⟨rfl, e9⟩; rw [e9]; clear e9 w1; have G1 := Lib.hid (show True from trivial)) | (go_at_call 11; refine (awake12 _).mono ?_; rintro e w2 ⟨rfl, b2⟩))
      go_ret
      exact ⟨rfl, b2⟩
  have hgr : greatEn l = false := by cases h : greatEn l; rfl; exact absurd (.inl h) hgg
  have hgr2 : greatEn l2 = false := by cases h : greatEn l2; rfl; exact absurd (.inr h) hgg
  have HGF := Lib.hid (fun (p : Option Addr) (c : Nat) (m : List En) (h : EnsAt w p m) (hm : greatEn m = false) => show Calls Try.prog 10 #[.slice p m.length c] w fun e w' => e = .returned (.bool false) ∧ w' = w from by have := greatEn_any w p c m h; rw [hm] at this; exact this)
  obtain ⟨hl60, hm60⟩ := greatEn_no hgr
  obtain ⟨hl602, hm602⟩ := greatEn_no hgr2
  have HGR := Lib.hid hgr
  have HGR2 := Lib.hid hgr2
  have HM60 := Lib.hid hm60
  have HM602 := Lib.hid hm602
  clear hA hA2 hgr hgr2 hm60 hm602 hgg HG
  go_enter Try.func7, Try.ntmps7
  go_wp2_with (first | (go_at_call 10; refine (HGF.out _ _ _ (by first | exact HA.out | exact HA2.out) (by first | exact HGR.out | exact HGR2.out)).mono ?_; rintro e w1 ⟨rfl, e9⟩; rw [e9]; clear e9 w1) | (go_at_call 11; refine (awake12 _).mono ?_; rintro e w2 ⟨rfl, b2⟩; have B2 := Lib.hid b2; clear b2) | (go_at_call 12; refine (snew _).mono ?_; rintro e w3 ⟨rfl, h3, b3⟩; have H3 := Lib.hid h3; have B3 := Lib.hid (B2.out.trans (b3.mono B2.out.size)); clear h3 b3))
  have hB := B2.out.size
  obtain ⟨B, hBe⟩ : ∃ B, B = w2.heap.size := ⟨_, rfl⟩
  rw [← hBe] at H3 hB ⊢
  have HBB := Lib.hid (show Below w.heap.size w w3 from B3.out)
  have HBS := Lib.hid hB
  have h3s : B ≤ w3.heap.size := by obtain ⟨m, mv, h9⟩ := H3.out.at_; exact Nat.le_of_lt h9.blk.lt
  clear hBe B2 B3
  go_loopw [6] (fun j wr => ∃ k : Nat, k ≤ l.length ∧ j = .int .i64 k ∧ DSt wr B B (esOf (l.take k)) ∧ Below w.heap.size w wr ∧ B ≤ wr.heap.size) (fun j _ => l.length - (intOf j).toNat)
  case atStart => exact ⟨0, Nat.zero_le _, rfl, H3.out, HBB.out, h3s⟩
  case round =>
    obtain ⟨k, hk, rfl, hd, hb, hs⟩ := hrel
    have HD := Lib.hid hd
    have HB := Lib.hid hb
    clear hd H3 HBB
    by_cases hlt : k < l.length
    · skip
      obtain ⟨b, off, rfl, hbl, hcl⟩ := HA.out.at_ hlt
      have c0 := (hb.cell (p := ⟨b, off + k * 2, none⟩) hbl).trans (hcl 0 (by omega))
      have c1 := (hb.cell (p := ⟨b, off + k * 2 + 1, none⟩) hbl).trans (hcl 1 (by omega))
      simp only [En.cells, List.getElem?_cons_zero, List.getElem?_cons_succ] at c0 c1
      have HADD := Lib.hid (add_at HD.out (HA.out.ok _ (List.getElem_mem hlt)) (HM60.out _ (List.getElem_mem hlt)) hb hs)
      have HTK := Lib.hid (esOf_take l hlt)
      clear hb
      clear hcl
      generalize hid : l[k].id = xid at *
      generalize hpr : l[k].par = xpr at *
      generalize l[k].at_ = xat at *
      generalize l[k].cap = xcap at *
      clear hid hpr
      have i1 : (k : Int) < (l.length : Int) := by omega
      have i0' : (0 : Int) ≤ (k : Int) := by omega
      go_wp2
      go_region_law (go_simp; go_at_call 14; refine (HADD.out _ ⟨by rfl, by rfl, by rfl, by rfl⟩).mono ?_; rintro e w4 ⟨rfl, h4, b4⟩; have H4 := Lib.hid h4; have B4 := Lib.hid b4; clear h4 b4; simp only [])
      all_goals
        go_wp2
        go_roundw
        case rel => exact ⟨k + 1, by omega, by go_num, by rw [HTK.out]; exact H4.out, HB.out.trans (B4.out.mono HBS.out), Nat.le_trans hs B4.out.size⟩
        case measure => simp [intOf]; omega
    · obtain rfl : k = l.length := by omega
      rw [List.take_length] at HD
      have HCP := Lib.hid (scopy HD.out)
      have HHD := Lib.hid (fun W (hW : Below wr.heap.size wr W) => sheads (HD.out.new hW))
      have HOD := Lib.hid (fun W (hW : Below wr.heap.size wr W) => sorder (HD.out.new hW))
      have hol : (orderL (esOf l)).length ≤ 300 := Nat.le_trans (order_odr _).good.len HD.out.ok.len
      have hhl : (headsL (esOf l)).length ≤ 300 := by
        have h1 : (riseL (headE (esOf l))).length ≤ (esOf l).length := by
          refine Nat.le_trans (rise_le _) ?_
          unfold headE
          refine Nat.le_trans (List.length_filter_le _ _) ?_
          simp
        exact Nat.le_trans h1 HD.out.ok.len
      have HOL := Lib.hid hol
      have HHL := Lib.hid hhl
      have HOZ := Lib.hid (fun i (hi : i < (orderL (esOf l)).length) => show ((orderL (esOf l))[i]).size ≤ maxLen by
        obtain ⟨e, he, e2⟩ := List.mem_map.1 (lookE_isSome.1 ((order_odr (esOf l)).good.2 _ (List.getElem_mem hi)))
        have := HD.out.ok.size e he
        rw [← e2]; unfold maxLen; omega)
      have hoN : (orderL (esOf l)).length ≤ 9223372036854775807 := by omega
      clear hb hlt hol hhl
      go_wp2_with (first
        | (go_at_call 29; refine HCP.out.mono ?_; rintro e w4 ⟨G', rfl, h4, b4⟩; have H4 := Lib.hid h4; have B4 := Lib.hid b4; clear h4 b4)
        | (go_at_call 23; refine (HHD.out w4 B4.out).mono ?_; rintro e w5 ⟨v5, rfl, h5, b5⟩; obtain ⟨p5, c5, rfl, _⟩ := h5.form; have H5 := Lib.hid h5; have B5s := Lib.hid b5; have B5 := Lib.hid (B4.out.trans (b5.mono B4.out.size)); clear h5 b5)
        | (go_at_call 25; refine (HOD.out w5 B5.out).mono ?_; rintro e w6 ⟨v6, rfl, h6, b6⟩; obtain ⟨p6, c6, rfl, _⟩ := h6.form; have H6 := Lib.hid h6; have B6s := Lib.hid b6; have B6 := Lib.hid (B5.out.trans (b6.mono B5.out.size)); clear h6 b6))
      clear HCP HHD HOD
      have z4 := B4.out.size
      have z5 := B5s.out.size
      have z6 := B6s.out.size
      obtain ⟨C, hC⟩ : ∃ C, C = wr.heap.size := ⟨_, rfl⟩
      obtain ⟨D, hD⟩ : ∃ D, D = w4.heap.size := ⟨_, rfl⟩
      obtain ⟨E, hE⟩ : ∃ E, E = w6.heap.size := ⟨_, rfl⟩
      have hBC : B ≤ C := by omega
      have hCD : C ≤ D := by omega
      have hDE : D ≤ E := by omega
      have HFa := Lib.hid (show DStF w6 (fun g => B ≤ g ∧ g < C) B (esOf l) from (HD.out.foot.new B6.out).mono (fun g _ hg => ⟨hg.1, by omega⟩))
      have HFb := Lib.hid (show DStF w6 (fun g => (C ≤ g ∧ g < D) ∨ E ≤ g) G' (esOf l) from ((H4.out.foot.new B5s.out).below B6s.out (by omega)).mono (fun g _ hg => .inl ⟨by omega, by omega⟩))
      have HHE := Lib.hid (show OwnL w6 D (.slice p5 (headsL (esOf l)).length c5) (headsL (esOf l)) from (H5.out.below B6s.out (Nat.le_refl _)).base (by omega))
      have HOR := Lib.hid (show OwnL w6 D (.slice p6 (orderL (esOf l)).length c6) (orderL (esOf l)) from H6.out.base (by omega))
      have HB6 := Lib.hid (show Below w.heap.size w w6 from HB.out.trans (B6.out.mono HB.out.size))
      have HEE := Lib.hid hE
      clear H4 B4 H5 B5s B5 H6 B6s B6 hC hD hE z4 z5 z6 HD HB
      go_loopw [10] (fun j wr => ∃ k : Nat, k ≤ l2.length ∧ j = .int .i64 k ∧ DStF wr (fun g => (C ≤ g ∧ g < D) ∨ E ≤ g) G' (esOn (esOf l) (l2.take k)) ∧ Off (fun g => (C ≤ g ∧ g < D) ∨ E ≤ g) w6 wr ∧ E ≤ wr.heap.size) (fun j _ => l2.length - (intOf j).toNat)
      case atStart => exact ⟨0, Nat.zero_le _, rfl, HFb.out, Off.refl _ _, by rw [HEE.out]; exact Nat.le_refl _⟩
      case round =>
        obtain ⟨k, hk, rfl, hd, ho, hs⟩ := hrel
        have HD := Lib.hid hd
        have HO := Lib.hid ho
        have hb : Below w.heap.size w wr := HB6.out.trans (off_below ho (fun g hg h => by have := HBS.out; omega) HB6.out.size)
        have HB := Lib.hid hb
        clear hd ho HFb
        by_cases hlt : k < l2.length
        · skip
          obtain ⟨b, off, rfl, hbl, hcl⟩ := HA2.out.at_ hlt
          have c0 := (hb.cell (p := ⟨b, off + k * 2, none⟩) hbl).trans (hcl 0 (by omega))
          have c1 := (hb.cell (p := ⟨b, off + k * 2 + 1, none⟩) hbl).trans (hcl 1 (by omega))
          simp only [En.cells, List.getElem?_cons_zero, List.getElem?_cons_succ] at c0 c1
          have HADD := Lib.hid (fadd HD.out (fun g hg => .inr (by omega)) (HA2.out.ok _ (List.getElem_mem hlt)) (HM602.out _ (List.getElem_mem hlt)) hb)
          have HTK := Lib.hid (esOn_take (esOf l) l2 hlt)
          clear hb
          clear hcl
          generalize hid : l2[k].id = xid at *
          generalize hpr : l2[k].par = xpr at *
          generalize l2[k].at_ = xat at *
          generalize l2[k].cap = xcap at *
          clear hid hpr
          have i1 : (k : Int) < (l2.length : Int) := by omega
          have i0' : (0 : Int) ≤ (k : Int) := by omega
          go_wp2
          go_region_law (go_simp; go_at_call 14; refine (HADD.out _ ⟨by rfl, by rfl, by rfl, by rfl⟩).mono ?_; rintro e w7 ⟨rfl, h7, o7⟩; have H7 := Lib.hid h7; have O7 := Lib.hid o7; clear h7 o7; simp only [])
          all_goals
            go_wp2
            go_roundw
            case rel => exact ⟨k + 1, by omega, by go_num, by rw [HTK.out]; exact H7.out, HO.out.trans O7.out (fun g _ hg => hg), Nat.le_trans hs O7.out.size⟩
            case measure => simp [intOf]; omega
        · obtain rfl : k = l2.length := by omega
          rw [List.take_length] at HD
          have hE7 := hs
          have HDa := Lib.hid (HFa.out.off HO.out (fun g hg h => by omega))
          have hrow : ∀ {p c} {L : List ByteArray}, OwnL w6 D (.slice p L.length c) L → OwnL wr D (.slice p L.length c) L := fun {p c L} h => own_kept h (fun g hg => HO.out.block g (own_lt h hg).1 (fun h9 => by have := (own_lt h hg).1; have := (own_lt h hg).2.1; rw [HEE.out] at h9; omega))
          have HHE7 := Lib.hid (hrow HHE.out)
          have HOR7 := Lib.hid (hrow HOR.out)
          have HS1 := Lib.hid (fun W (hW : Below wr.heap.size wr W) => sheads (HDa.out.st.new hW))
          have HS2 := Lib.hid (fun W (hW : Below wr.heap.size wr W) => sorder (HDa.out.st.new hW))
          clear hrow hb hlt HHE HOR HO
          go_wp2_with (first
            | (go_at_call 23; refine (HS1.out wr (Below.refl _ _)).mono ?_; rintro e w8 ⟨v8, rfl, h8, b8⟩; obtain ⟨p8, c8, rfl, _⟩ := h8.form; have H8 := Lib.hid h8; have B8 := Lib.hid b8; clear h8 b8)
            | (go_at_call 18; refine (same_rows H10.out (HOR7.out.below B10.out (Nat.le_refl _)) (by have := HOL.out; unfold maxLen; omega)).mono ?_; rintro e w11 ⟨rfl, b11⟩; have B11 := Lib.hid (B10.out.trans (b11.mono B10.out.size)); clear b11)
            | (go_at_call 18; refine (same_rows H8.out (HHE7.out.below B8.out (Nat.le_refl _)) (by have := HHL.out; unfold maxLen; omega)).mono ?_; rintro e w9 ⟨rfl, b9⟩; have B9 := Lib.hid (B8.out.trans (b9.mono B8.out.size)); clear b9)
            | (go_at_call 25; refine (HS2.out w9 B9.out).mono ?_; rintro e w10 ⟨v10, rfl, h10, b10⟩; obtain ⟨p10, c10, rfl, _⟩ := h10.form; have H10 := Lib.hid h10; have B10 := Lib.hid (B9.out.trans (b10.mono B9.out.size)); clear h10 b10))
          have HDb11 := Lib.hid (HD.out.new B11.out)
          have HDa11 := Lib.hid (HDa.out.new B11.out)
          have HOR11 := Lib.hid (HOR7.out.below B11.out (Nat.le_refl _))
          have HB11 := Lib.hid (HB.out.trans (B11.out.mono HB.out.size))
          have z11 := B11.out.size
          clear HD HDa HHE7 HOR7 HS1 HS2 H8 B8 B9 H10 B10 B11 HB
          generalize hes : esOf l = es at *
          obtain ⟨O, hO⟩ : ∃ O, O = orderL es := ⟨_, rfl⟩
          rw [← hO] at HOR11 hoN ⊢
          rw [← hO] at HOZ
          clear hO hes
          go_loopw [11] (fun j wr => ∃ k : Nat, k ≤ O.length ∧ j = .int .i64 k ∧ Below w11.heap.size w11 wr) (fun j _ => O.length - (intOf j).toNat)
          case atStart => exact ⟨0, Nat.zero_le _, rfl, Below.refl _ _⟩
          case round =>
            obtain ⟨k, hk, rfl, hb⟩ := hrel
            by_cases hlt : k < O.length
            · obtain ⟨g, rfl, hg, hcell⟩ := row_cell12 HOR11.out (by omega)
              have ck := (hb.cell (p := ⟨g, k, none⟩) hg).trans (hcell k hlt)
              have HPR := Lib.hid (sparents (HDa11.out.new hb).st (HOZ.out k hlt))
              have HBK := Lib.hid hb
              have hpl : (parE es O[k]).length ≤ 1000000 := HDa11.out.ok.parLen _
              clear hcell hb
              generalize O[k] = x at *
              generalize parE es x = M at *
              have i1 : (k : Int) < (O.length : Int) := by omega
              have i0' : (0 : Int) ≤ (k : Int) := by omega
              go_wp2_with (go_at_call 19; refine HPR.out.mono ?_; rintro e w12 ⟨v12, rfl, h12, b12⟩; obtain ⟨p12, c12, rfl, _⟩ := h12.form; have H12 := Lib.hid h12; have B12 := Lib.hid (HBK.out.trans (b12.mono HBK.out.size)); clear h12 b12)
              rename World => wi0
              have hwr := HBK.out.size
              have HWR := Lib.hid (show w11.heap.size ≤ wr.heap.size from hwr)
              obtain ⟨R0, hR0⟩ : ∃ R0, R0 = wr.heap.size := ⟨_, rfl⟩
              rw [← hR0] at H12 HWR
              clear hwr hR0
              go_loopw [13] (fun j wr => ∃ (k : Nat) (L : List Value), k ≤ M.length ∧ j = .int .i64 k ∧ wr.ownsRow R0 9 1 (.slice p12 M.length c12) M.length L ∧ Below w11.heap.size w11 wr) (fun j _ => M.length - (intOf j).toNat)
              case atStart => exact ⟨0, _, Nat.zero_le _, rfl, H12.out, B12.out⟩
              case round =>
                obtain ⟨n, L, hn, rfl, hown, hbn⟩ := hrel
                by_cases hln : n < M.length
                · obtain ⟨_, _, e9, _, _, hp⟩ := rowS_form hown
                  cases e9
                  obtain ⟨g2, rfl⟩ := hp (by omega)
                  have cn := ownS_cell hown n (by omega)
                  have fn := cn.2
                  have hL := hown.1
                  obtain ⟨z, hz⟩ : ∃ z, wr.cell? ⟨g2, n, none⟩ = some z := by
                    rw [cn.1]
                    exact ⟨_, List.getElem?_eq_getElem (by omega)⟩
                  have HN := Lib.hid (ownS_set hown n (.string ⟨#[115, 112, 111, 105, 108, 116]⟩))
                  have hg2 := (own_lt hown (g := g2) rfl).2.1
                  have HBN := Lib.hid (fun v => hbn.setCell (p := ⟨g2, n, none⟩) (Nat.le_trans HWR.out hg2) v)
                  have n1 : (n : Int) < (M.length : Int) := by omega
                  have n0 : (0 : Int) ≤ (n : Int) := by omega
                  clear hown hbn cn hL hp hg2
                  go_wp2
                  go_roundw
                  case rel => exact ⟨n + 1, _, by omega, by go_num, HN.out, HBN.out _⟩
                  case measure => simp [intOf]; omega
                · obtain rfl : n = M.length := by omega
                  have HBN := Lib.hid hbn
                  clear hown hbn
                  go_wp2
                  go_roundw
                  case rel => exact ⟨k + 1, by omega, by go_num, HBN.out⟩
                  case measure => simp [intOf]; omega
            · obtain rfl : k = O.length := by omega
              have hF := hb.size
              have HDa := Lib.hid ((HDa11.out.new hb).mono (T := fun g => (B ≤ g ∧ g < C) ∨ wr.heap.size ≤ g) (fun g _ hg => .inl hg))
              have HDb := Lib.hid ((HDb11.out.new hb).mono (T := fun g => (C ≤ g ∧ g < D) ∨ (E ≤ g ∧ g < wr.heap.size)) (fun g hl hg => by rcases hg with h | h; exact .inl h; exact .inr ⟨h, hl⟩))
              have HB := Lib.hid (HB11.out.trans (hb.mono HB11.out.size))
              obtain ⟨F, hF0⟩ : ∃ F, F = wr.heap.size := ⟨_, rfl⟩
              rw [← hF0] at HDa HDb
              have hEF : E ≤ F := by omega
              have HFF := Lib.hid hF0
              clear hb hF hlt HDa11 HDb11 HOR11 HOZ HB11 hF0
              obtain ⟨W0, hW0⟩ : ∃ W0, W0 = wr := ⟨_, rfl⟩
              have HWE := Lib.hid hW0
              clear hW0
              go_wp2
              go_loopw [14] (fun j wr => ∃ k : Nat, k ≤ l2.length ∧ j = .int .i64 k ∧ DStF wr (fun g => (B ≤ g ∧ g < C) ∨ F ≤ g) B (esOn es (l2.take k)) ∧ Off (fun g => (B ≤ g ∧ g < C) ∨ F ≤ g) W0 wr ∧ F ≤ wr.heap.size) (fun j _ => l2.length - (intOf j).toNat)
              case atStart => exact ⟨0, Nat.zero_le _, rfl, HDa.out, by rw [HWE.out]; exact Off.refl _ _, by rw [HFF.out]; exact Nat.le_refl _⟩
              case round =>
                obtain ⟨k, hk, rfl, hd, ho, hs⟩ := hrel
                have HD := Lib.hid hd
                have HO := Lib.hid ho
                have HB0 := HB.out
                rw [← HWE.out] at HB0
                have hb : Below w.heap.size w wr := HB0.trans (off_below ho (fun g hg h => by have := HBS.out; omega) HB0.size)
                have HBx := Lib.hid hb
                clear hd ho HB0
                by_cases hlt : k < l2.length
                · skip
                  obtain ⟨b, off, rfl, hbl, hcl⟩ := HA2.out.at_ hlt
                  have c0 := (hb.cell (p := ⟨b, off + k * 2, none⟩) hbl).trans (hcl 0 (by omega))
                  have c1 := (hb.cell (p := ⟨b, off + k * 2 + 1, none⟩) hbl).trans (hcl 1 (by omega))
                  simp only [En.cells, List.getElem?_cons_zero, List.getElem?_cons_succ] at c0 c1
                  have HADD := Lib.hid (fadd HD.out (fun g hg => .inr (by omega)) (HA2.out.ok _ (List.getElem_mem hlt)) (HM602.out _ (List.getElem_mem hlt)) hb)
                  have HTK := Lib.hid (esOn_take es l2 hlt)
                  clear hb
                  clear hcl
                  generalize hid : l2[k].id = xid at *
                  generalize hpr : l2[k].par = xpr at *
                  generalize l2[k].at_ = xat at *
                  generalize l2[k].cap = xcap at *
                  clear hid hpr
                  have i1 : (k : Int) < (l2.length : Int) := by omega
                  have i0' : (0 : Int) ≤ (k : Int) := by omega
                  go_wp2
                  go_region_law (go_simp; go_at_call 14; refine (HADD.out _ ⟨by rfl, by rfl, by rfl, by rfl⟩).mono ?_; rintro e w7 ⟨rfl, h7, o7⟩; have H7 := Lib.hid h7; have O7 := Lib.hid o7; clear h7 o7; simp only [])
                  all_goals
                    go_wp2
                    go_roundw
                    case rel => exact ⟨k + 1, by omega, by go_num, by rw [HTK.out]; exact H7.out, HO.out.trans O7.out (fun g _ hg => hg), Nat.le_trans hs O7.out.size⟩
                    case measure => simp [intOf]; omega
                · obtain rfl : k = l2.length := by omega
                  rw [List.take_length] at HD
                  have HDb2 := HDb.out
                  rw [← HWE.out] at HDb2
                  have HDB := Lib.hid (HDb2.off HO.out (fun g hg h => by omega))
                  clear HDb2 HDb HDa hb hlt
                  generalize esOn es l2 = es2 at *
                  have hol : (orderL es2).length ≤ maxLen := by have := (order_odr es2).good.len; have := HD.out.ok.len; unfold maxLen; omega
                  have hhl : (headsL es2).length ≤ maxLen := by
                    have h1 : (riseL (headE es2)).length ≤ es2.length := by
                      refine Nat.le_trans (rise_le _) ?_
                      unfold headE
                      refine Nat.le_trans (List.length_filter_le _ _) ?_
                      simp
                    have := HD.out.ok.len
                    have h2 : (headsL es2).length ≤ es2.length := h1
                    unfold maxLen; omega
                  have HOL2 := Lib.hid hol
                  have HHL2 := Lib.hid hhl
                  have Q1 := Lib.hid (sorder HD.out.st)
                  have Q2 := Lib.hid (fun W (hW : Below wr.heap.size wr W) => sorder (HDB.out.st.new hW))
                  have Q3 := Lib.hid (fun W (hW : Below wr.heap.size wr W) => sheads (HD.out.st.new hW))
                  have Q4 := Lib.hid (fun W (hW : Below wr.heap.size wr W) => sheads (HDB.out.st.new hW))
                  clear hol hhl HO
                  go_wp2_with (first
                    | (go_at_call 25; refine (Q2.out w20 B20.out).mono ?_; rintro e w21 ⟨v21, rfl, h21, b21⟩; obtain ⟨p21, c21, rfl, _⟩ := h21.form; have H21 := Lib.hid h21; have B21s := Lib.hid b21; have B21 := Lib.hid (B20.out.trans (b21.mono B20.out.size)); clear h21 b21)
                    | (go_at_call 25; refine Q1.out.mono ?_; rintro e w20 ⟨v20, rfl, h20, b20⟩; obtain ⟨p20, c20, rfl, _⟩ := h20.form; have H20 := Lib.hid h20; have B20 := Lib.hid b20; clear h20 b20)
                    | (go_at_call 18; refine (same_rows (H23.out.below B24s.out (Nat.le_refl _)) H24.out HHL2.out).mono ?_; rintro e w25 ⟨rfl, b25⟩; have B25 := Lib.hid (B24.out.trans (b25.mono B24.out.size)); clear b25)
                    | (go_at_call 18; refine (same_rows (H20.out.below B21s.out (Nat.le_refl _)) H21.out HOL2.out).mono ?_; rintro e w22 ⟨rfl, b22⟩; have B22 := Lib.hid (B21.out.trans (b22.mono B21.out.size)); clear b22)
                    | (go_at_call 23; refine (Q4.out w23 B23.out).mono ?_; rintro e w24 ⟨v24, rfl, h24, b24⟩; obtain ⟨p24, c24, rfl, _⟩ := h24.form; have H24 := Lib.hid h24; have B24s := Lib.hid b24; have B24 := Lib.hid (B23.out.trans (b24.mono B23.out.size)); clear h24 b24)
                    | (go_at_call 23; refine (Q3.out w22 B22.out).mono ?_; rintro e w23 ⟨v23, rfl, h23, b23⟩; obtain ⟨p23, c23, rfl, _⟩ := h23.form; have H23 := Lib.hid h23; have B23 := Lib.hid (B22.out.trans (b23.mono B22.out.size)); clear h23 b23))
                  go_ret
                  exact ⟨rfl, HBx.out.trans (B25.out.mono HBx.out.size)⟩

theorem own : ownKnob Try.prog.godebug = none := by kernel_rfl
theorem laidOut : laidOutB Try.prog = true := by kernel_rfl

set_option maxRecDepth 100000 in
theorem lifted (os : Os) (started : os.Started) (H : Type) (enc : TypeId × Value → H) :
    ReturnsInHanded {} Try.checked os 7 .any (Rows.dagCopiesSpec.pre6 enc Try.prog Try.f7 Rows.dagCopiesRow.domain false) (Rows.dagCopiesSpec.post enc Try.prog Try.f7 false true false false) := by
  refine returnsInHanded_of_change_sized (C := Try.checked) own started (by kernel_rfl) Try.func7
    (ChangeSpec.witness6 (enc := enc) (C := Try.checked) false ⟨#[], #[.slice none 0 0, .slice none 0 0], []⟩ 8 (by kernel_rfl) (by kernel_rfl) (by kernel_rfl) (by kernel_rfl)) ?_
  intro W base args ds gs before hval0 hW _ hsz0 _
  have hsz : (DataW.weightsEach Try.prog (Try.f7.params.toList ++ Rows.dagCopiesSpec.plain.varTypes Try.prog) (ds ++ gs)).all (· ≤ reachBytes) = true := hsz0
  clear hsz0
  have hval : ∀ (j : Nat) t v, Try.f7.params[j]? = some t → args[j]? = some v → Value.okWide Try.prog W .any base t v := hval0
  have hW' := hW
  obtain ⟨p, q, hA0, hV, rfl, hfz, hnd⟩ := hW
  have hA : DataW.TrodAll enc Try.prog W 0 (fun _ => true) true Try.f7.params.toList args.toList ds p := hA0
  rw [Try.params7] at hA hval hsz
  obtain ⟨v0, vs0, d0, ds0, p0, q0, hargs, rfl, rfl, h0, r0⟩ := trodAll_cons hA
  obtain ⟨v1, vs1, d1, ds1, p1, q1, rfl, rfl, rfl, h1, r1⟩ := trodAll_cons r0
  obtain ⟨rfl, rfl, rfl⟩ := trodAll_nil r1
  obtain rfl : args = #[v0, v1] := by cases args; simp_all
  obtain ⟨rfl, rfl⟩ := trodVars_none hV
  obtain ⟨x0, len0, cap0, rfl⟩ := okWide_slice Try.underlying22 (hval 0 22 v0 rfl rfl)
  have k0 := h0
  have lt0 : ∀ x ∈ p0, x.block < W.heap.size := by obtain ⟨m, hm⟩ := k0; exact DataW.trod_lt m _ _ _ hm
  obtain ⟨l0, rfl, i0⟩ : ∃ l : List En, len0 = l.length ∧ EnsAt W x0 l := by
    obtain ⟨fuel, hf⟩ := h0
    exact ens_of (show DataW.trod enc Try.prog W 0 (fun _ => true) true fuel 22 [.slice x0 len0 cap0] = some _ from hf) (lo_each hsz (j := 0) rfl rfl)
  obtain ⟨x1, len1, cap1, rfl⟩ := okWide_slice Try.underlying22 (hval 1 22 v1 rfl rfl)
  have k1 := h1
  have lt1 : ∀ x ∈ p1, x.block < W.heap.size := by obtain ⟨m, hm⟩ := k1; exact DataW.trod_lt m _ _ _ hm
  obtain ⟨l1, rfl, i1⟩ : ∃ l : List En, len1 = l.length ∧ EnsAt W x1 l := by
    obtain ⟨fuel, hf⟩ := h1
    exact ens_of (show DataW.trod enc Try.prog W 0 (fun _ => true) true fuel 22 [.slice x1 len1 cap1] = some _ from hf) (lo_each hsz (j := 1) rfl rfl)
  clear hA0 hval0
  refine (walk x0 cap0 l0 x1 cap1 l1  W i0 i1).mono fun e W' ⟨he, bel⟩ => ?_
  subst he
  exact ⟨_, rfl, _, _, _, [], _, [], hW', trodAll_mk1 (shut_bool Try.underlying4 _), (trodAll_cons_mk (Below.trod laidOut (by kernel_rfl) (of_decide_eq_true (by kernel_rfl)) k0 bel lt0) (trodAll_cons_mk (Below.trod laidOut (by kernel_rfl) (of_decide_eq_true (by kernel_rfl)) k1 bel lt1) trodAll_mk0)), rfl, bel.frame _, fun h => by cases h⟩

theorem over : Rows.dagCopiesRow.holds Try.pinned (OpenSpec.ofChange Rows.dagCopiesSpec) :=
  OpenClaim.holds_of_wide 7 Try.f7 rfl rfl rfl rfl rfl rfl rfl ⟨rfl, rfl, rfl, rfl, rfl⟩ rfl rfl rfl rfl rfl (by kernel_rfl) Try.func7 (by kernel_rfl)
    (of_decide_eq_true (by kernel_rfl)) (by unfold Func.isWrapper; first | (rw [if_pos (by decide +kernel)]; kernel_rfl) | (rw [if_neg (by decide +kernel)]; exact ⟨rfl, rfl⟩))
    (fun os started H enc _ => lifted os started H enc)

end Go.Proofs.Ytabongfoeoideaa.DagCopies
namespace Go.Proofs.Ytabongfoeoideaa
theorem dagCopies_holds : Rows.DagCopiesSaid := DagCopies.over
#print axioms dagCopies_holds
end Go.Proofs.Ytabongfoeoideaa

