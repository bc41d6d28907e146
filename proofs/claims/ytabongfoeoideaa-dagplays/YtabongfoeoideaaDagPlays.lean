/-
  P12.1, P12.2: whatever is added: each answer, and all that is told behind it, is the document's.
  No condition but what the row itself says.
-/
import Derived.Test.YtabongfoeoideaaB30
namespace Go.Proofs.Ytabongfoeoideaa.DagPlays
open Go.ChangeShapes Go.WideShapes Go.ChangeAt Go.RowKit Go.Pal
open Go.ChangeMaps (open_string shut_string)
set_option linter.unusedVariables false
set_option maxHeartbeats 4000000 in
set_option maxRecDepth 100000 in
theorem walk (a : Option Addr) (cap : Nat) (l : List En) (ask : ByteArray) (hask : ask.size ≤ 140737488351232) (w : World) (hA : EnsAt w a l) :
    Calls Try.prog 3 #[.slice a l.length cap, .string ask] w fun e w' => e = .returned (.bool true) ∧ Below w.heap.size w w' := by
  have HASK := Lib.hid (show ask.size ≤ maxLen by unfold maxLen; omega)
  clear hask
  have HG := Lib.hid (greatEn_any w a cap l hA)
  cases hgr : greatEn l with
  | true =>
    rw [hgr] at HG
    clear hgr
    go_enter Try.func3, Try.ntmps3
    go_wp2_with (first | (go_at_call 10; refine HG.out.mono ?_; rintro e w1 ⟨rfl, e9⟩; rw [e9]; clear e9 w1) | (go_at_call 11; refine (awake12 _).mono ?_; rintro e w2 ⟨rfl, b2⟩))
    go_ret
    exact ⟨rfl, b2⟩
  | false =>
  rw [hgr] at HG
  obtain ⟨hl60, hm60⟩ := greatEn_no hgr
  have HM60 := Lib.hid hm60
  have HA := Lib.hid hA
  clear hA hgr hm60
  go_enter Try.func3, Try.ntmps3
  go_wp2_with (first | (go_at_call 10; refine HG.out.mono ?_; rintro e w1 ⟨rfl, e9⟩; rw [e9]; clear e9 w1) | (go_at_call 11; refine (awake12 _).mono ?_; rintro e w2 ⟨rfl, b2⟩; have B2 := Lib.hid b2; clear b2) | (go_at_call 12; refine (snew _).mono ?_; rintro e w3 ⟨rfl, h3, b3⟩; have H3 := Lib.hid (Two.start h3); have B3 := Lib.hid (B2.out.trans (b3.mono B2.out.size)); have B3s := Lib.hid b3.size; clear h3 b3))
  have hB := B2.out.size
  obtain ⟨B, hBe⟩ : ∃ B, B = w2.heap.size := ⟨_, rfl⟩
  rw [← hBe] at H3 hB B3s ⊢
  have HBB := Lib.hid (show Below w.heap.size w w3 from B3.out)
  have HBS := Lib.hid hB
  have h3s := B3s.out
  clear hBe B2 B3 B3s
  have HIZ := Lib.hid (fun k (hk : k < l.length) => show (l[k]).id.size ≤ maxLen by have := (HA.out.ok _ (List.getElem_mem hk)).id; unfold maxLen; omega)
  have HSAME := Lib.hid (fun (W : World) (p : Option Addr) (c : Nat) (q : Option Addr) (d : Nat) (m : List ByteArray) (h1 : StrRow W p m) (h2 : StrRow W q m) (hm : m.length ≤ maxLen) => show Calls Try.prog 18 #[.slice p m.length c, .slice q m.length d] W fun e w' => e = .returned (.bool true) ∧ Below W.heap.size W w' from by
    have := rsame_any (c := c) (d := d) h1 h2 hm hm
    rw [decide_eq_true rfl] at this; exact this)
  go_loopw [6, 7] (fun v6 j wr => ∃ (k : Nat) (a2 : Option Addr) (c2 : Nat) (m : List En), k ≤ l.length ∧ j = .int .i64 k ∧ v6 = .slice a2 m.length c2 ∧ Two wr B B a2 c2 m (esOf (l.take k)) ∧ Below w.heap.size w wr ∧ B ≤ wr.heap.size) (fun _ j _ => l.length - (intOf j).toNat)
  case atStart => exact ⟨0, none, 0, [], Nat.zero_le _, rfl, rfl, H3.out, HBB.out, h3s⟩
  case round =>
    obtain ⟨k, a2, c2, m, hk, rfl, rfl, hd, hb, hs⟩ := hrel
    have HD := Lib.hid hd
    have HB := Lib.hid hb
    clear hd H3 HBB
    by_cases hlt : k < l.length
    · skip
      obtain ⟨b, off, rfl, hbl, hcl⟩ := HA.out.at_ hlt
      have c0 := (hb.cell (p := ⟨b, off + k * 2, none⟩) hbl).trans (hcl 0 (by omega))
      have c1 := (hb.cell (p := ⟨b, off + k * 2 + 1, none⟩) hbl).trans (hcl 1 (by omega))
      simp only [En.cells, List.getElem?_cons_zero, List.getElem?_cons_succ] at c0 c1
      have HC0 := Lib.hid (show ∀ W, Below w.heap.size w W → W.cell? ⟨b, off + k * 2, none⟩ = some (.string l[k].id) ∧ W.cell? ⟨b, off + k * 2 + 1, none⟩ = some (.slice l[k].at_ l[k].par.length l[k].cap) from fun W hW => ⟨(hW.cell (p := ⟨b, off + k * 2, none⟩) hbl).trans (hcl 0 (by omega)), (hW.cell (p := ⟨b, off + k * 2 + 1, none⟩) hbl).trans (hcl 1 (by omega))⟩)
      have hokk := HA.out.ok _ (List.getElem_mem hlt)
      have hp60 := HM60.out _ (List.getElem_mem hlt)
      have HR := Lib.hid (two_radd HD.out hokk hp60 hb hs)
      have HADD := Lib.hid (fun (W : World) (a3 : Option Addr) (k3 : Nat) (m3 : List En) (h : Half W B B a3 k3 m3 (esOf (l.take k)) (addE (esOf (l.take k)) l[k].id l[k].par)) (hW : Below w.heap.size w W) (hBW : B ≤ W.heap.size) wx hd => two_dadd (W := w) (wr := W) (B := B) (G := B) h hokk hp60 hW hBW wx hd)
      have HTK := Lib.hid (esOf_take l hlt)
      have hxz := HIZ.out k hlt
      clear hb hokk hp60
      clear hcl
      generalize hid : l[k].id = xid at *
      generalize hpr : l[k].par = xpr at *
      generalize l[k].at_ = xat at *
      generalize l[k].cap = xcap at *
      clear hid hpr
      have i1 : (k : Int) < (l.length : Int) := by omega
      have i0' : (0 : Int) ≤ (k : Int) := by omega
      go_wp2
      go_region_law (go_simp; go_at_call 13; refine (HR.out _ ⟨by rfl, by rfl, by rfl, by rfl⟩).mono ?_; rintro e w4 ⟨a4, k4, m4, rfl, h4, b4⟩; have H4 := Lib.hid h4; have B4 := Lib.hid b4; clear h4 b4; simp only [])
      all_goals
        have HW4 := Lib.hid (HB.out.trans (B4.out.mono HB.out.size))
        have hs4 : B ≤ w4.heap.size := Nat.le_trans hs B4.out.size
        have HA4 := Lib.hid (HADD.out w4 a4 k4 m4 H4.out HW4.out hs4)
        obtain ⟨d0, d1⟩ := HC0.out w4 HW4.out
        clear c0 c1
        go_wp2
        go_region_law (go_simp; go_at_call 14; refine (HA4.out _ ⟨by rfl, by rfl, by rfl, by rfl⟩).mono ?_; rintro e w5 ⟨rfl, h5, b5⟩; have H5 := Lib.hid h5; have B5 := Lib.hid b5; clear h5 b5; simp only [])
        all_goals
          rw [← HTK.out] at H5
          have HW5 := Lib.hid (HW4.out.trans (B5.out.mono HBS.out))
          have hs5 : B ≤ w5.heap.size := Nat.le_trans hs4 B5.out.size
          obtain ⟨f0, f1⟩ := HC0.out w5 HW5.out
          clear d0 d1 f1 HA4 H4 HADD HR
          obtain ⟨es, hes⟩ : ∃ es, es = esOf (l.take (k + 1)) := ⟨_, rfl⟩
          have HES := Lib.hid hes
          rw [← hes] at H5
          clear hes
          obtain ⟨q, hq⟩ : ∃ q, q = (lookE es xid).isSome := ⟨_, rfl⟩
          have Q1 := Lib.hid (shas H5.out.dst hxz)
          have Q2 := Lib.hid (two_find H5.out xid q hq.symm)
          have Q3 := Lib.hid (two_len H5.out)
          have Q4 := Lib.hid (sparents H5.out.dst hxz)
          have Q5 := Lib.hid (fun W (hW : Below w5.heap.size w5 W) => two_par (H5.out.new hW) xid)
          have Q6 := Lib.hid (fun W (hW : Below w5.heap.size w5 W) => spast (H5.out.new hW).dst hxz)
          have Q7 := Lib.hid (fun W (hW : Below w5.heap.size w5 W) => two_past (H5.out.new hW) xid)
          have L1 := Lib.hid (par_len H5.out.dst.ok xid)
          have L2 := Lib.hid (past_len H5.out.dst.ok xid)
          rw [← hq] at Q1
          clear hq hxz
          generalize parE es xid = PM at *
          generalize riseL (pastL es xid) = QM at *
          cases q with
          | true =>
            go_wp2_with (first
              | (go_at_call 15; refine Q1.out.mono ?_; rintro e w' ⟨rfl, e9⟩; rw [e9]; clear e9 w')
              | (go_at_call 16; refine Q2.out.mono ?_; rintro e w' ⟨⟨n, rfl, hn⟩, e9⟩; rw [e9]; clear e9 w'; have hn0 := Nn.yes hn; clear hn)
              | (go_at_call 17; refine Q3.out.mono ?_; rintro e w' ⟨rfl, e9⟩; rw [e9]; clear e9 w')
              | (go_at_call 19; refine Q4.out.mono ?_; rintro e w6 ⟨v6, rfl, h6, b6⟩; obtain ⟨p6, c6, rfl, r6⟩ := h6.form; have R6 := Lib.hid r6; have B6 := Lib.hid b6; clear h6 r6 b6)
              | (go_at_call 20; refine (Q5.out w6 B6.out).mono ?_; rintro e w' ⟨⟨p7, c7, rfl, r7⟩, e9⟩; rw [e9]; clear e9 w'; have R7 := Lib.hid r7; clear r7)
              | (go_at_call 18; refine (HSAME.out _ _ _ _ _ QM R9.out R10.out L2.out).mono ?_; rintro e w11 ⟨rfl, b11⟩; have B11 := Lib.hid (B10.out.trans (b11.mono B10.out.size)); clear b11)
              | (go_at_call 18; refine (HSAME.out _ _ _ _ _ PM R6.out R7.out L1.out).mono ?_; rintro e w8 ⟨rfl, b8⟩; have B8 := Lib.hid (B6.out.trans (b8.mono B6.out.size)); clear b8)
              | (go_at_call 21; refine (Q6.out w8 B8.out).mono ?_; rintro e w9 ⟨v9, rfl, h9, b9⟩; obtain ⟨p9, c9, rfl, r9⟩ := h9.form; have B9 := Lib.hid (B8.out.trans (b9.mono B8.out.size)); have H9 := Lib.hid h9; clear h9 r9 b9)
              | (go_at_call 22; refine (Q7.out w9 B9.out).mono ?_; rintro e w10 ⟨v10, rfl, h10, b10⟩; obtain ⟨p10, c10, rfl, r10⟩ := h10.form; have B10 := Lib.hid (B9.out.trans (b10.mono B9.out.size)); have R10 := Lib.hid r10; have R9 := Lib.hid (H9.out.below b10 (Nat.le_refl _)).at_; clear h10 r10 b10))
            go_roundw
            case rel => exact ⟨k + 1, a4, k4, m4, by omega, by go_num, rfl, by rw [← HES.out]; exact H5.out.new B11.out, HW5.out.trans (B11.out.mono HW5.out.size), Nat.le_trans hs5 B11.out.size⟩
            case measure => simp [intOf]; omega
          | false =>
            go_wp2_with (first
              | (go_at_call 15; refine Q1.out.mono ?_; rintro e w' ⟨rfl, e9⟩; rw [e9]; clear e9 w')
              | (go_at_call 16; refine Q2.out.mono ?_; rintro e w' ⟨⟨n, rfl, hn⟩, e9⟩; rw [e9]; clear e9 w'; have hn0 := Nn.no hn; clear hn)
              | (go_at_call 17; refine Q3.out.mono ?_; rintro e w' ⟨rfl, e9⟩; rw [e9]; clear e9 w')
              | (go_at_call 19; refine Q4.out.mono ?_; rintro e w6 ⟨v6, rfl, h6, b6⟩; obtain ⟨p6, c6, rfl, r6⟩ := h6.form; have R6 := Lib.hid r6; have B6 := Lib.hid b6; clear h6 r6 b6)
              | (go_at_call 20; refine (Q5.out w6 B6.out).mono ?_; rintro e w' ⟨⟨p7, c7, rfl, r7⟩, e9⟩; rw [e9]; clear e9 w'; have R7 := Lib.hid r7; clear r7)
              | (go_at_call 18; refine (HSAME.out _ _ _ _ _ QM R9.out R10.out L2.out).mono ?_; rintro e w11 ⟨rfl, b11⟩; have B11 := Lib.hid (B10.out.trans (b11.mono B10.out.size)); clear b11)
              | (go_at_call 18; refine (HSAME.out _ _ _ _ _ PM R6.out R7.out L1.out).mono ?_; rintro e w8 ⟨rfl, b8⟩; have B8 := Lib.hid (B6.out.trans (b8.mono B6.out.size)); clear b8)
              | (go_at_call 21; refine (Q6.out w8 B8.out).mono ?_; rintro e w9 ⟨v9, rfl, h9, b9⟩; obtain ⟨p9, c9, rfl, r9⟩ := h9.form; have B9 := Lib.hid (B8.out.trans (b9.mono B8.out.size)); have H9 := Lib.hid h9; clear h9 r9 b9)
              | (go_at_call 22; refine (Q7.out w9 B9.out).mono ?_; rintro e w10 ⟨v10, rfl, h10, b10⟩; obtain ⟨p10, c10, rfl, r10⟩ := h10.form; have B10 := Lib.hid (B9.out.trans (b10.mono B9.out.size)); have R10 := Lib.hid r10; have R9 := Lib.hid (H9.out.below b10 (Nat.le_refl _)).at_; clear h10 r10 b10))
            go_roundw
            case rel => exact ⟨k + 1, a4, k4, m4, by omega, by go_num, rfl, by rw [← HES.out]; exact H5.out.new B11.out, HW5.out.trans (B11.out.mono HW5.out.size), Nat.le_trans hs5 B11.out.size⟩
            case measure => simp [intOf]; omega
    · obtain rfl : k = l.length := by omega
      rw [List.take_length] at HD
      clear hb hlt
      generalize esOf l = es at *
      obtain ⟨q, hq⟩ : ∃ q, q = (lookE es ask).isSome := ⟨_, rfl⟩
      have Q1 := Lib.hid (sheads HD.out.dst)
      have Q2 := Lib.hid (fun W (hW : Below wr.heap.size wr W) => two_heads (HD.out.new hW))
      have Q3 := Lib.hid (fun W (hW : Below wr.heap.size wr W) => sorder (HD.out.new hW).dst)
      have Q4 := Lib.hid (fun W (hW : Below wr.heap.size wr W) => two_order (HD.out.new hW))
      have Q5 := Lib.hid (fun W (hW : Below wr.heap.size wr W) => shas (HD.out.new hW).dst HASK.out)
      have Q6 := Lib.hid (fun W (hW : Below wr.heap.size wr W) => two_find (HD.out.new hW) ask q hq.symm)
      have Q7 := Lib.hid (fun W (hW : Below wr.heap.size wr W) => spast (HD.out.new hW).dst HASK.out)
      have Q8 := Lib.hid (fun W (hW : Below wr.heap.size wr W) => two_past (HD.out.new hW) ask)
      have L1 := Lib.hid (heads_len HD.out.dst.ok)
      have L2 := Lib.hid (order_lenM HD.out.dst.ok)
      have L3 := Lib.hid (past_len HD.out.dst.ok ask)
      rw [← hq] at Q5
      clear hq
      generalize headsL es = HM at *
      generalize orderL es = OM at *
      generalize riseL (pastL es ask) = PM at *
      cases q with
      | true =>
        go_wp2_with (first
          | (go_at_call 23; refine Q1.out.mono ?_; rintro e w1 ⟨v1, rfl, h1, b1⟩; obtain ⟨p1, c1, rfl, _⟩ := h1.form; have H1 := Lib.hid h1; have B1 := Lib.hid b1; clear h1 b1)
          | (go_at_call 24; refine (Q2.out w1 B1.out).mono ?_; rintro e w2 ⟨v2, rfl, h2, b2⟩; obtain ⟨p2, c2, rfl, r2⟩ := h2.form; have B2 := Lib.hid (B1.out.trans (b2.mono B1.out.size)); have R2 := Lib.hid r2; have R1 := Lib.hid (H1.out.below b2 (Nat.le_refl _)).at_; clear h2 b2 r2)
          | (go_at_call 18; refine (HSAME.out _ _ _ _ _ PM R9.out R10.out L3.out).mono ?_; rintro e w11 ⟨rfl, b11⟩; have B11 := Lib.hid (B10.out.trans (b11.mono B10.out.size)); clear b11)
          | (go_at_call 18; refine (HSAME.out _ _ _ _ _ OM R4.out R5.out L2.out).mono ?_; rintro e w6 ⟨rfl, b6⟩; have B6 := Lib.hid (B5.out.trans (b6.mono B5.out.size)); clear b6)
          | (go_at_call 18; refine (HSAME.out _ _ _ _ _ HM R1.out R2.out L1.out).mono ?_; rintro e w3 ⟨rfl, b3⟩; have B3 := Lib.hid (B2.out.trans (b3.mono B2.out.size)); clear b3)
          | (go_at_call 25; refine (Q3.out w3 B3.out).mono ?_; rintro e w4 ⟨v4, rfl, h4, b4⟩; obtain ⟨p4, c4, rfl, _⟩ := h4.form; have H4 := Lib.hid h4; have B4 := Lib.hid (B3.out.trans (b4.mono B3.out.size)); clear h4 b4)
          | (go_at_call 26; refine (Q4.out w4 B4.out).mono ?_; rintro e w5 ⟨v5, rfl, h5, b5⟩; obtain ⟨p5, c5, rfl, r5⟩ := h5.form; have B5 := Lib.hid (B4.out.trans (b5.mono B4.out.size)); have R5 := Lib.hid r5; have R4 := Lib.hid (H4.out.below b5 (Nat.le_refl _)).at_; clear h5 b5 r5)
          | (go_at_call 15; refine (Q5.out w6 B6.out).mono ?_; rintro e w' ⟨rfl, e9⟩; rw [e9]; clear e9 w')
          | (go_at_call 16; refine (Q6.out w6 B6.out).mono ?_; rintro e w' ⟨⟨n, rfl, hn⟩, e9⟩; rw [e9]; clear e9 w'; have hn0 := Nn.yes hn; clear hn)
          | (go_at_call 21; refine (Q7.out w6 B6.out).mono ?_; rintro e w9 ⟨v9, rfl, h9, b9⟩; obtain ⟨p9, c9, rfl, r9⟩ := h9.form; have B9 := Lib.hid (B6.out.trans (b9.mono B6.out.size)); have H9 := Lib.hid h9; clear h9 r9 b9)
          | (go_at_call 22; refine (Q8.out w9 B9.out).mono ?_; rintro e w10 ⟨v10, rfl, h10, b10⟩; obtain ⟨p10, c10, rfl, r10⟩ := h10.form; have B10 := Lib.hid (B9.out.trans (b10.mono B9.out.size)); have R10 := Lib.hid r10; have R9 := Lib.hid (H9.out.below b10 (Nat.le_refl _)).at_; clear h10 r10 b10))
        go_ret
        first
          | exact ⟨rfl, HB.out.trans (B11.out.mono HB.out.size)⟩
          | exact ⟨congrArg (fun b => Ending.returned (.bool b)) (show (!decide ((0 : Int) ≤ n)) = true by simp; omega), HB.out.trans (B11.out.mono HB.out.size)⟩
      | false =>
        go_wp2_with (first
          | (go_at_call 23; refine Q1.out.mono ?_; rintro e w1 ⟨v1, rfl, h1, b1⟩; obtain ⟨p1, c1, rfl, _⟩ := h1.form; have H1 := Lib.hid h1; have B1 := Lib.hid b1; clear h1 b1)
          | (go_at_call 24; refine (Q2.out w1 B1.out).mono ?_; rintro e w2 ⟨v2, rfl, h2, b2⟩; obtain ⟨p2, c2, rfl, r2⟩ := h2.form; have B2 := Lib.hid (B1.out.trans (b2.mono B1.out.size)); have R2 := Lib.hid r2; have R1 := Lib.hid (H1.out.below b2 (Nat.le_refl _)).at_; clear h2 b2 r2)
          | (go_at_call 18; refine (HSAME.out _ _ _ _ _ PM R9.out R10.out L3.out).mono ?_; rintro e w11 ⟨rfl, b11⟩; have B11 := Lib.hid (B10.out.trans (b11.mono B10.out.size)); clear b11)
          | (go_at_call 18; refine (HSAME.out _ _ _ _ _ OM R4.out R5.out L2.out).mono ?_; rintro e w6 ⟨rfl, b6⟩; have B6 := Lib.hid (B5.out.trans (b6.mono B5.out.size)); clear b6)
          | (go_at_call 18; refine (HSAME.out _ _ _ _ _ HM R1.out R2.out L1.out).mono ?_; rintro e w3 ⟨rfl, b3⟩; have B3 := Lib.hid (B2.out.trans (b3.mono B2.out.size)); clear b3)
          | (go_at_call 25; refine (Q3.out w3 B3.out).mono ?_; rintro e w4 ⟨v4, rfl, h4, b4⟩; obtain ⟨p4, c4, rfl, _⟩ := h4.form; have H4 := Lib.hid h4; have B4 := Lib.hid (B3.out.trans (b4.mono B3.out.size)); clear h4 b4)
          | (go_at_call 26; refine (Q4.out w4 B4.out).mono ?_; rintro e w5 ⟨v5, rfl, h5, b5⟩; obtain ⟨p5, c5, rfl, r5⟩ := h5.form; have B5 := Lib.hid (B4.out.trans (b5.mono B4.out.size)); have R5 := Lib.hid r5; have R4 := Lib.hid (H4.out.below b5 (Nat.le_refl _)).at_; clear h5 b5 r5)
          | (go_at_call 15; refine (Q5.out w6 B6.out).mono ?_; rintro e w' ⟨rfl, e9⟩; rw [e9]; clear e9 w')
          | (go_at_call 16; refine (Q6.out w6 B6.out).mono ?_; rintro e w' ⟨⟨n, rfl, hn⟩, e9⟩; rw [e9]; clear e9 w'; have hn0 := Nn.no hn; clear hn)
          | (go_at_call 21; refine (Q7.out w6 B6.out).mono ?_; rintro e w9 ⟨v9, rfl, h9, b9⟩; obtain ⟨p9, c9, rfl, r9⟩ := h9.form; have B9 := Lib.hid (B6.out.trans (b9.mono B6.out.size)); have H9 := Lib.hid h9; clear h9 r9 b9)
          | (go_at_call 22; refine (Q8.out w9 B9.out).mono ?_; rintro e w10 ⟨v10, rfl, h10, b10⟩; obtain ⟨p10, c10, rfl, r10⟩ := h10.form; have B10 := Lib.hid (B9.out.trans (b10.mono B9.out.size)); have R10 := Lib.hid r10; have R9 := Lib.hid (H9.out.below b10 (Nat.le_refl _)).at_; clear h10 r10 b10))
        go_ret
        first
          | exact ⟨rfl, HB.out.trans (B11.out.mono HB.out.size)⟩
          | exact ⟨congrArg (fun b => Ending.returned (.bool b)) (show (!decide ((0 : Int) ≤ n)) = true by simp; omega), HB.out.trans (B11.out.mono HB.out.size)⟩

theorem own : ownKnob Try.prog.godebug = none := by kernel_rfl
theorem laidOut : laidOutB Try.prog = true := by kernel_rfl

set_option maxRecDepth 100000 in
theorem lifted (os : Os) (started : os.Started) (H : Type) (enc : TypeId × Value → H) :
    ReturnsInHanded {} Try.checked os 3 .any (Rows.dagPlaysSpec.pre6 enc Try.prog Try.f3 Rows.dagPlaysRow.domain false) (Rows.dagPlaysSpec.post enc Try.prog Try.f3 false true false false) := by
  refine returnsInHanded_of_change_sized (C := Try.checked) own started (by kernel_rfl) Try.func3
    (ChangeSpec.witness6 (enc := enc) (C := Try.checked) false ⟨#[], #[.slice none 0 0, .string ByteArray.empty], []⟩ 8 (by kernel_rfl) (by kernel_rfl) (by kernel_rfl) (by kernel_rfl)) ?_
  intro W base args ds gs before hval0 hW _ hsz0 _
  have hsz : (DataW.weightsEach Try.prog (Try.f3.params.toList ++ Rows.dagPlaysSpec.plain.varTypes Try.prog) (ds ++ gs)).all (· ≤ reachBytes) = true := hsz0
  clear hsz0
  have hval : ∀ (j : Nat) t v, Try.f3.params[j]? = some t → args[j]? = some v → Value.okWide Try.prog W .any base t v := hval0
  have hW' := hW
  obtain ⟨p, q, hA0, hV, rfl, hfz, hnd⟩ := hW
  have hA : DataW.TrodAll enc Try.prog W 0 (fun _ => true) true Try.f3.params.toList args.toList ds p := hA0
  rw [Try.params3] at hA hval hsz
  obtain ⟨v0, vs0, d0, ds0, p0, q0, hargs, rfl, rfl, h0, r0⟩ := trodAll_cons hA
  obtain ⟨v1, vs1, d1, ds1, p1, q1, rfl, rfl, rfl, h1, r1⟩ := trodAll_cons r0
  obtain ⟨rfl, rfl, rfl⟩ := trodAll_nil r1
  obtain rfl : args = #[v0, v1] := by cases args; simp_all
  obtain ⟨rfl, rfl⟩ := trodVars_none hV
  obtain ⟨x0, len0, cap0, rfl⟩ := okWide_slice Try.underlying22 (hval 0 22 v0 rfl rfl)
  have k0 := h0
  have lt0 : ∀ x ∈ p0, x.block < W.heap.size := by obtain ⟨m, hm⟩ := k0; exact DataW.trod_lt m _ _ _ hm
  obtain ⟨l0, rfl, i0⟩ : ∃ l : List En, len0 = l.length ∧ EnsAt W x0 l := by
    obtain ⟨fuel, hf⟩ := h0
    exact ens_of (show DataW.trod enc Try.prog W 0 (fun _ => true) true fuel 22 [.slice x0 len0 cap0] = some _ from hf) (lo_each hsz (j := 0) rfl rfl)
  obtain ⟨a1, rfl, rfl, rfl, w1⟩ := open_string Try.underlying9 (hval 1 9 v1 rfl rfl) h1
  have z1 : a1.size ≤ 140737488351232 := by
    have := sized_string hsz (j := 1) (t := 9) rfl rfl
    simpa [reachBytes] using this
  clear hA0 hval0
  refine (walk x0 cap0 l0 a1 z1 W i0).mono fun e W' ⟨he, bel⟩ => ?_
  subst he
  exact ⟨_, rfl, _, _, _, [], _, [], hW', trodAll_mk1 (shut_bool Try.underlying4 _), (trodAll_cons_mk (Below.trod laidOut (by kernel_rfl) (of_decide_eq_true (by kernel_rfl)) k0 bel lt0) (trodAll_cons_mk (shut_string Try.underlying9 w1) trodAll_mk0)), rfl, bel.frame _, fun h => by cases h⟩

theorem over : Rows.dagPlaysRow.holds Try.pinned (OpenSpec.ofChange Rows.dagPlaysSpec) :=
  OpenClaim.holds_of_wide 3 Try.f3 rfl rfl rfl rfl rfl rfl rfl ⟨rfl, rfl, rfl, rfl, rfl⟩ rfl rfl rfl rfl rfl (by kernel_rfl) Try.func3 (by kernel_rfl)
    (of_decide_eq_true (by kernel_rfl)) (by unfold Func.isWrapper; first | (rw [if_pos (by decide +kernel)]; kernel_rfl) | (rw [if_neg (by decide +kernel)]; exact ⟨rfl, rfl⟩))
    (fun os started H enc _ => lifted os started H enc)

end Go.Proofs.Ytabongfoeoideaa.DagPlays
namespace Go.Proofs.Ytabongfoeoideaa
theorem dagPlays_holds : Rows.DagPlaysSaid := DagPlays.over
#print axioms dagPlays_holds
end Go.Proofs.Ytabongfoeoideaa

