/-
  P12.3: added in another order that can be, the entries make the same heads, order and pasts.
  No condition but what the row itself says.
-/
import Derived.Test.YtabongfoeoideaaDgu
import Derived.Test.YtabongfoeoideaaWInt
import Derived.Test.YtabongfoeoideaaB30
namespace Go.Proofs.Ytabongfoeoideaa.DagTurned
open Go.ChangeShapes Go.WideShapes Go.ChangeAt Go.RowKit Go.Pal
open Go.ChangeMaps (open_string shut_string)
set_option linter.unusedVariables false
/-- How far it is to the first place, round and round. -/
def ringM (n : Nat) (v : Value) : Nat := (n - (intOf v).toNat) % n
theorem ring_lt {n j j' : Nat} (hj : j < n) (hj1 : j' < n) (h0 : j ≠ 0) (h : j' = 0 ∨ j' = j + 1) : ringM n (.int .i64 (j' : Nat)) < ringM n (.int .i64 (j : Nat)) := by
  unfold ringM
  have e1 : (intOf (.int .i64 ((j' : Nat) : Int))).toNat = j' := by simp [intOf]
  have e2 : (intOf (.int .i64 ((j : Nat) : Int))).toNat = j := by simp [intOf]
  rw [e1, e2, Nat.mod_eq_of_lt (show n - j < n by omega)]
  rcases h with rfl | rfl
  · rw [Nat.sub_zero, Nat.mod_self]; omega
  · rw [Nat.mod_eq_of_lt (by omega)]; omega
theorem iRow_some {w : World} {a : Option Addr} {l : List Int} (h : IntRow w a l) (h0 : 0 < l.length) : ∃ b off, a = some ⟨b, off, none⟩ ∧ b < w.heap.size ∧ ∀ i (hi : i < l.length), w.cell? ⟨b, off + i, none⟩ = some (.int .i64 l[i]) := by
  rcases h with h | ⟨b, off, rfl, hbl, hc⟩
  · rw [h] at h0; simp at h0
  · refine ⟨b, off, rfl, hbl, fun i hi => ?_⟩
    rw [hc i hi, List.getD_eq_getElem?_getD, List.getElem?_eq_getElem hi]; rfl
set_option maxHeartbeats 4000000 in
set_option maxRecDepth 100000 in
theorem walk (a : Option Addr) (cap : Nat) (l : List En) (a2 : Option Addr) (cap2 : Nat) (by_ : List Int) (w : World) (hA : EnsAt w a l) (hI : IntRow w a2 by_) (hIk : IntsOk by_) :
    Calls Try.prog 6 #[.slice a l.length cap, .slice a2 by_.length cap2] w fun e w' => e = .returned (.bool true) ∧ Below w.heap.size w w' := by
  have HG := Lib.hid (greatEn_any w a cap l hA)
  cases hgr : greatEn l with
  | true =>
    rw [hgr] at HG
    clear hgr
    go_enter Try.func6, Try.ntmps6
    go_wp2_with (first | (go_at_call 10; refine HG.out.mono ?_; rintro e w1 ⟨rfl, e9⟩; rw [e9]; clear e9 w1) | (go_at_call 11; refine (awake12 _).mono ?_; rintro e w2 ⟨rfl, b2⟩))
    go_ret
    exact ⟨rfl, b2⟩
  | false =>
  rw [hgr] at HG
  obtain ⟨hl60, hm60⟩ := greatEn_no hgr
  have HM60 := Lib.hid hm60
  have HA := Lib.hid hA
  have HI := Lib.hid hI
  have hblen : by_.length ≤ 9223372036854775807 := by have := hIk.1; unfold maxLen at this; omega
  obtain ⟨i0, hi0, hz0, hz1, hz2⟩ := info_parts (show (Try.prog.info? 9).map (fun i => (i.zero, i.size, i.bytes)) = some (some (.string ⟨#[]⟩), 1, 16) by kernel_rfl)
  have I0 := Lib.hid hi0
  have Z0 := Lib.hid hz0
  have Z1 := Lib.hid hz1
  have Z2 := Lib.hid hz2
  clear hA hI hIk hgr hm60 hi0 hz0 hz1 hz2
  go_enter Try.func6, Try.ntmps6
  go_wp2_with (first
    | (go_at_call 10; refine HG.out.mono ?_; rintro e w1 ⟨rfl, e9⟩; rw [e9]; clear e9 w1)
    | (go_at_call 11; refine (awake12 _).mono ?_; rintro e w2 ⟨rfl, b2⟩; have B2 := Lib.hid b2; clear b2)
    | (go_at_call 12; have hq := B3.out; clear hq; refine (snew _).mono ?_; rintro e w4 ⟨rfl, h4, b4⟩; have H4 := Lib.hid h4; have B4 := Lib.hid b4; clear h4 b4)
    | (go_at_call 12; refine (snew _).mono ?_; rintro e w3 ⟨rfl, h3, b3⟩; have H3 := Lib.hid h3; have B3 := Lib.hid b3; clear h3 b3))
  obtain ⟨G1, hG1⟩ : ∃ G, G = w2.heap.size := ⟨_, rfl⟩
  obtain ⟨G2, hG2⟩ : ∃ G, G = w3.heap.size := ⟨_, rfl⟩
  obtain ⟨C0, hC0⟩ : ∃ G, G = w4.heap.size := ⟨_, rfl⟩
  have hb2 := B2.out.size
  have hb3 := B3.out.size
  have hb4 := B4.out.size
  have hwG : w.heap.size ≤ G1 := by omega
  have h12 : G1 ≤ G2 := by omega
  have h2C : G2 ≤ C0 := by omega
  have HFa := Lib.hid (show DStF w4 (fun g => (G1 ≤ g ∧ g < G2) ∨ C0 ≤ g) G1 (esOf (l.take 0)) from by
    rw [hG1]; exact (H3.out.foot.new B4.out).mono (fun g _ hg => .inl ⟨hg.1, by omega⟩))
  have HFb := Lib.hid (show DStF w4 (fun g => G2 ≤ g ∧ g < C0) G2 [] from by
    rw [hG2]; exact H4.out.foot.mono (fun g hl hg => ⟨by omega, by omega⟩))
  have HB4 := Lib.hid (B2.out.trans ((B3.out.trans (B4.out.mono hb3)).mono hb2))
  have HC0 := Lib.hid hC0
  rw [← hG1, ← hG2]
  clear H3 H4 B2 B3 B4 hb2 hb3 hb4 hG1 hG2 hC0
  go_loopw [7] (fun j wr => ∃ k : Nat, k ≤ l.length ∧ j = .int .i64 k ∧ DStF wr (fun g => (G1 ≤ g ∧ g < G2) ∨ C0 ≤ g) G1 (esOf (l.take k)) ∧ NoE (esOf (l.take k)) ∧ Off (fun g => (G1 ≤ g ∧ g < G2) ∨ C0 ≤ g) w4 wr ∧ C0 ≤ wr.heap.size) (fun j _ => l.length - (intOf j).toNat)
  case atStart => exact ⟨0, Nat.zero_le _, rfl, HFa.out, fun e he => by simp [esOf] at he, Off.refl _ _, by rw [HC0.out]; exact Nat.le_refl _⟩
  case round =>
    obtain ⟨k, hk, rfl, hd, hne, ho, hs⟩ := hrel
    have HD := Lib.hid hd
    have HO := Lib.hid ho
    have HNE := Lib.hid hne
    have hb : Below w.heap.size w wr := HB4.out.trans (off_below ho (fun g hg h => by omega) HB4.out.size)
    have HB := Lib.hid hb
    clear hd ho hne HFa
    by_cases hlt : k < l.length
    · skip
      obtain ⟨b, off, rfl, hbl, hcl⟩ := HA.out.at_ hlt
      have c0 := (hb.cell (p := ⟨b, off + k * 2, none⟩) hbl).trans (hcl 0 (by omega))
      have c1 := (hb.cell (p := ⟨b, off + k * 2 + 1, none⟩) hbl).trans (hcl 1 (by omega))
      simp only [En.cells, List.getElem?_cons_zero, List.getElem?_cons_succ] at c0 c1
      have HADD := Lib.hid (fadd HD.out (fun g hg => .inr (by omega)) (HA.out.ok _ (List.getElem_mem hlt)) (HM60.out _ (List.getElem_mem hlt)) hb)
      have HTK := Lib.hid (esOf_take l hlt)
      have HNA := Lib.hid (noE_add HNE.out l[k].id l[k].par)
      clear hb
      clear hcl
      generalize hid : l[k].id = xid at *
      generalize hpr : l[k].par = xpr at *
      generalize l[k].at_ = xat at *
      generalize l[k].cap = xcap at *
      clear hid hpr
      have i1 : (k : Int) < (l.length : Int) := by omega
      have i0' : (0 : Int) ≤ (k : Int) := by omega
      go_wp2
      go_region_law (go_simp; go_at_call 14; refine (HADD.out _ ⟨by rfl, by rfl, by rfl, by rfl⟩).mono ?_; rintro e w7 ⟨rfl, h7, o7⟩; have H7 := Lib.hid h7; have O7 := Lib.hid o7; clear h7 o7; simp only [])
      all_goals
        go_wp2
        go_roundw
        case rel => exact ⟨k + 1, by omega, by go_num, by rw [HTK.out]; exact H7.out, by rw [HTK.out]; exact HNA.out, HO.out.trans O7.out (fun g _ hg => hg), Nat.le_trans hs O7.out.size⟩
        case measure => simp [intOf]; omega
    · obtain rfl : k = l.length := by omega
      rw [List.take_length] at HD HNE
      have HDb := Lib.hid (HFb.out.off HO.out (fun g hg h => by omega))
      generalize esOf l = es at *
      have HOK := Lib.hid HD.out.ok
      have HT0 := Lib.hid (TurnI.start HOK.out HD.out.st.ids)
      have HORD := Lib.hid (sorder HD.out.st)
      have hol := Nat.le_trans (order_odr es).good.len HOK.out.len
      have HLN := Lib.hid hol
      clear hb hlt HO
      go_wp2_with (go_at_call 25; refine HORD.out.mono ?_; rintro e w6 ⟨v6, rfl, h6, b6⟩; obtain ⟨p6, c6, rfl, _⟩ := h6.form; have H6 := Lib.hid h6; have B6 := Lib.hid b6; clear h6 b6)
      obtain ⟨D, hD⟩ : ∃ D, D = wr.heap.size := ⟨_, rfl⟩
      obtain ⟨E, hE⟩ : ∃ E, E = w6.heap.size := ⟨_, rfl⟩
      have hz6 := B6.out.size
      have hCD : C0 ≤ D := by omega
      have hDE : D ≤ E := by omega
      rw [← hD] at H6
      have HFa6 := Lib.hid (show DStF w6 (fun g => (G1 ≤ g ∧ g < G2) ∨ (C0 ≤ g ∧ g < D)) G1 es from (HD.out.mono (T := fun g => (G1 ≤ g ∧ g < G2) ∨ (C0 ≤ g ∧ g < D)) (fun g hl hg => by rcases hg with h | h; exact .inl h; exact .inr ⟨h, by omega⟩)).new B6.out)
      have HFb6 := Lib.hid (HDb.out.new B6.out)
      have HB6 := Lib.hid (HB.out.trans (B6.out.mono HB.out.size))
      have HEE := Lib.hid hE
      clear HD HDb HFb HB B6 hD hE hz6 HORD
      go_loopw [8, 9] (fun v8 v9 wr => ∃ (n : Nat) (L : List ByteArray) (esB : List (ByteArray × List ByteArray)) (S : Nat → Prop), v9 = .int .i64 n ∧ n + L.length ≤ 300 ∧ OwnL wr D v8 L ∧ TurnI es esB L ∧ DStF wr S G2 esB ∧ (∀ g, S g → (G2 ≤ g ∧ g < C0) ∨ E ≤ g) ∧ (∀ g, v8.ownBlock = some g → ¬ S g) ∧ Off (fun g => (G2 ≤ g ∧ g < C0) ∨ E ≤ g) w6 wr ∧ E ≤ wr.heap.size) (fun v8 _ _ => match v8 with | .slice _ n _ => n | _ => 0)
      case atStart => exact ⟨0, _, [], _, rfl, by have := HLN.out; omega, H6.out, HT0.out, HFb6.out, fun g hg => .inl hg, fun g hg h => by have := (own_lt H6.out hg).2.1; omega, Off.refl _ _, by rw [HEE.out]; exact Nat.le_refl _⟩
      case round =>
        obtain ⟨n, L, esB, S, rfl, hnl, hown, ht, hd, hS, hrow, ho, hs⟩ := hrel
        have HT := Lib.hid ht
        have HD := Lib.hid hd
        have HS := Lib.hid hS
        have HO := Lib.hid ho
        have HOW := Lib.hid hown
        have hb : Below w.heap.size w wr := HB6.out.trans (off_below ho (fun g hg h => by omega) HB6.out.size)
        have HB := Lib.hid hb
        obtain ⟨p8, c8, rfl, _⟩ := hown.form
        by_cases h0 : L.length = 0
        · obtain rfl : L = [] := List.eq_nil_of_length_eq_zero h0
          clear hown ht hd hS hrow ho hb
          have HAw := Lib.hid (HFa6.out.off HO.out (fun g h1 h2 => by omega))
          have hhd := HT.out.heads
          have hod := HT.out.order
          have hln : esB.length = es.length := by have := HT.out.len; simpa using this
          have HOKB := Lib.hid HD.out.ok
          have Q1 := Lib.hid (sheads HAw.out.st)
          have Q2 := Lib.hid (fun W (hW : Below wr.heap.size wr W) => sheads (HD.out.new hW).st)
          have Q3 := Lib.hid (fun W (hW : Below wr.heap.size wr W) => sorder (HAw.out.new hW).st)
          have Q4 := Lib.hid (fun W (hW : Below wr.heap.size wr W) => sorder (HD.out.new hW).st)
          have Q5 := Lib.hid (fun W (hW : Below wr.heap.size wr W) => slen (HAw.out.new hW).st)
          have Q6 := Lib.hid (fun W (hW : Below wr.heap.size wr W) => slen (HD.out.new hW).st)
          rw [hhd] at Q2
          rw [hod] at Q4
          rw [hln] at Q6
          have L1 := Lib.hid (heads_len HOK.out)
          have L2 := Lib.hid (order_lenM HOK.out)
          have HXZ := Lib.hid (fun i (hi : i < (orderL es).length) => show ((orderL es)[i]).size ≤ maxLen by
            obtain ⟨e, he, e2⟩ := List.mem_map.1 (lookE_isSome.1 ((order_odr es).good.2 _ (List.getElem_mem hi)))
            have := HOK.out.size e he
            rw [← e2]; unfold maxLen; omega)
          have HPQ := Lib.hid (fun x => HT.out.past HOK.out HOKB.out x)
          have HPM := Lib.hid (fun x => past_len HOK.out x)
          obtain ⟨O, hO⟩ : ∃ O, O = orderL es := ⟨_, rfl⟩
          rw [← hO] at Q3 Q4 L2 HXZ
          have hO3 : O.length ≤ 300 := by rw [hO]; exact hol
          clear hhd hod hln hO
          generalize headsL es = HM at *
          generalize hesl : es.length = esl at *
          clear hesl
          go_wp2_with (first
            | (go_at_call 23; have hq := B20.out; clear hq; refine (Q2.out w20 B20.out).mono ?_; rintro e w21 ⟨v21, rfl, h21, b21⟩; obtain ⟨p21, c21, rfl, _⟩ := h21.form; have H21 := Lib.hid h21; have H20b := Lib.hid (H20.out.below b21 (Nat.le_refl _)); have B21 := Lib.hid (B20.out.trans (b21.mono B20.out.size)); clear h21 b21)
            | (go_at_call 23; refine Q1.out.mono ?_; rintro e w20 ⟨v20, rfl, h20, b20⟩; obtain ⟨p20, c20, rfl, _⟩ := h20.form; have H20 := Lib.hid h20; have B20 := Lib.hid b20; clear h20 b20)
            | (go_at_call 18; refine (same_rows H23b.out H24.out L2.out).mono ?_; rintro e w25 ⟨rfl, b25⟩; have B25 := Lib.hid (B24.out.trans (b25.mono B24.out.size)); clear b25)
            | (go_at_call 18; refine (same_rows H20b.out H21.out L1.out).mono ?_; rintro e w22 ⟨rfl, b22⟩; have B22 := Lib.hid (B21.out.trans (b22.mono B21.out.size)); clear b22)
            | (go_at_call 25; have hq := B25.out; clear hq; refine (Q3.out w25 B25.out).mono ?_; rintro e w26 ⟨v26, rfl, h26, b26⟩; obtain ⟨p26, c26, rfl, _⟩ := h26.form; have H26 := Lib.hid h26; have B26 := Lib.hid (B25.out.trans (b26.mono B25.out.size)); clear h26 b26)
            | (go_at_call 25; have hq := B23.out; clear hq; refine (Q4.out w23 B23.out).mono ?_; rintro e w24 ⟨v24, rfl, h24, b24⟩; obtain ⟨p24, c24, rfl, _⟩ := h24.form; have H24 := Lib.hid h24; have H23b := Lib.hid (H23.out.below b24 (Nat.le_refl _)); have B24 := Lib.hid (B23.out.trans (b24.mono B23.out.size)); clear h24 b24)
            | (go_at_call 25; refine (Q3.out w22 B22.out).mono ?_; rintro e w23 ⟨v23, rfl, h23, b23⟩; obtain ⟨p23, c23, rfl, _⟩ := h23.form; have H23 := Lib.hid h23; have B23 := Lib.hid (B22.out.trans (b23.mono B22.out.size)); clear h23 b23)
            | (go_at_call 17; have hq := Z5.out; clear hq; refine (Q6.out w25 B25.out).mono ?_; rintro e w' ⟨rfl, e9⟩; rw [e9]; clear e9 w')
            | (go_at_call 17; refine (Q5.out w25 B25.out).mono ?_; rintro e w' ⟨rfl, e9⟩; rw [e9]; clear e9 w'; have Z5 := Lib.hid (show True from trivial)))
          have HBW := Lib.hid (HB.out.trans (B26.out.mono HB.out.size))
          have QA := Lib.hid (fun x (hx : x.size ≤ maxLen) W (hW : Below w26.heap.size w26 W) => show Calls Try.prog 21 #[.pointer (some ⟨G1, 0, none⟩), .string x] W fun e w' => ∃ v, e = .returned v ∧ OwnL w' W.heap.size v (riseL (pastL es x)) ∧ Below w26.heap.size w26 w' from
            (spast (HAw.out.new (B26.out.trans (hW.mono B26.out.size))).st hx).mono (fun e w' ⟨v, h1, h2, h3⟩ => ⟨v, h1, h2, hW.trans (h3.mono hW.size)⟩))
          have QB := Lib.hid (fun x (hx : x.size ≤ maxLen) w30 b1 p1 n1 c1 (h30 : OwnL w30 b1 (.slice p1 n1 c1) (riseL (pastL es x))) (b30 : Below w26.heap.size w26 w30) W (hd : Drawn w30 W) => show Calls Try.prog 21 #[.pointer (some ⟨G2, 0, none⟩), .string x] W fun e w' => ∃ v, e = .returned v ∧ OwnL w' W.heap.size v (riseL (pastL es x)) ∧ OwnL w' b1 (.slice p1 n1 c1) (riseL (pastL es x)) ∧ Below w26.heap.size w26 w' from by
            have hW : Below w26.heap.size w26 W := b30.trans (hd.below _)
            have := spast (HD.out.new (B26.out.trans (hW.mono B26.out.size))).st hx
            rw [HPQ.out x] at this
            exact this.mono (fun e w' ⟨v, h1, h2, h3⟩ => ⟨v, h1, h2, (h30.below (hd.below w30.heap.size) (Nat.le_refl _)).below h3 (Nat.le_refl _), hW.trans (h3.mono hW.size)⟩))
          have QS := Lib.hid (fun x w31 b1 p1 n1 c1 (h1 : OwnL w31 b1 (.slice p1 n1 c1) (riseL (pastL es x))) b2 p2 c2 (h2 : OwnL w31 b2 (.slice p2 n1 c2) (riseL (pastL es x))) (b31 : Below w26.heap.size w26 w31) W (hd : Drawn w31 W) => show Calls Try.prog 18 #[.slice p1 n1 c1, .slice p2 n1 c2] W fun e w' => e = .returned (.bool true) ∧ Below w26.heap.size w26 w' from
            (same_rows (h1.below (hd.below w31.heap.size) (Nat.le_refl _)) (h2.below (hd.below w31.heap.size) (Nat.le_refl _)) (HPM.out x)).mono (fun e w' h => ⟨h.1, (b31.trans (hd.below _)).trans (h.2.mono (by have := b31.size; rw [hd.1]; exact this))⟩))
          clear Q1 Q2 Q3 Q4 Q5 Q6
          go_loopw [12] (fun j wi => ∃ i : Nat, i ≤ O.length ∧ j = .int .i64 i ∧ Below w26.heap.size w26 wi) (fun j _ => O.length - (intOf j).toNat)
          case atStart => exact ⟨0, Nat.zero_le _, rfl, Below.refl _ _⟩
          case round =>
            obtain ⟨i, hi, rfl, hbi⟩ := hrel
            by_cases hil : i < O.length
            · obtain ⟨go, rfl, hgo, hcell⟩ := row_cell12 H26.out (by omega)
              have q1 := (hbi.cell (p := ⟨go, i, none⟩) hgo).trans (hcell i hil)
              have ci := hcell i hil
              have hxz := HXZ.out i hil
              have bdr := hbi.drew
              have i1 : (i : Int) < (O.length : Int) := by omega
              have i0' : (0 : Int) ≤ (i : Int) := by omega
              clear hcell
              generalize O[i] = x at *
              go_wp2
              go_region_held3 (fun w' => w'.cell? ⟨go, i, none⟩ = some (.string x) ∧ Below w26.heap.size w26 w')
                (first | exact ⟨(b32.cell (p := ⟨go, i, none⟩) hgo).trans ci, b32⟩ | exact ⟨(b31.cell (p := ⟨go, i, none⟩) hgo).trans ci, b31⟩ | exact ⟨(b30.cell (p := ⟨go, i, none⟩) hgo).trans ci, b30⟩ | exact ⟨q1, bdr⟩ | exact ⟨q1, hbi⟩ | exact bdr | exact b32 | exact b31 | exact b30 | go_keep)
                (first
                | ((go_at_call 21; have hq := b30; clear hq; refine (QB.out x hxz _ _ _ _ _ H30.out b30 _ ⟨by rfl, by rfl, by rfl, by rfl⟩).mono ?_; rintro e w31 ⟨v31, rfl, h31, h30b, b31⟩; obtain ⟨p31, c31, rfl, _⟩ := h31.form; have H31 := Lib.hid h31; have H30b := Lib.hid h30b; clear h31 h30b))
                | ((go_at_call 21; refine (QA.out x hxz _ (by first | exact bdr | exact hbi | assumption)).mono ?_; rintro e w30 ⟨v30, rfl, h30, b30⟩; obtain ⟨p30, c30, rfl, _⟩ := h30.form; have H30 := Lib.hid h30; clear h30))
                | ((go_at_call 18; refine (QS.out x _ _ _ _ _ H30b.out _ _ _ H31.out b31 _ ⟨by rfl, by rfl, by rfl, by rfl⟩).mono ?_; rintro e w32 ⟨rfl, b32⟩)))
              go_wp2
              go_roundw
              case rel => exact ⟨i + 1, by omega, by go_num, b32⟩
              case measure => simp [intOf]; omega
            · obtain rfl : i = O.length := by omega
              have HBI := Lib.hid hbi
              clear hbi
              go_wp2
              go_ret
              exact ⟨rfl, HBW.out.trans (HBI.out.mono HBW.out.size)⟩
        · have hlp : 0 < L.length := by omega
          have hlpi : (0 : Int) < (L.length : Int) := by omega
          obtain ⟨_, _, e9, _, _, hp⟩ := rowS_form hown
          obtain ⟨g, rfl⟩ : ∃ g, p8 = some ⟨g, 0, none⟩ := by cases e9; exact hp hlp
          have hgS := hrow g rfl
          obtain ⟨W1, hW1⟩ : ∃ W1, W1 = wr := ⟨_, rfl⟩
          obtain ⟨S1, hS1⟩ : ∃ S1 : Nat → Prop, S1 = fun g' => (S g' ∧ g' < W1.heap.size) ∨ W1.heap.size ≤ g' := ⟨_, rfl⟩
          have HS1 := Lib.hid (show DStF wr S1 G2 esB from hd.mono (fun g' hl hg => by rw [hS1]; exact .inl ⟨hg, by rw [hW1]; exact hl⟩))
          have HSN := Lib.hid (show ∀ g', W1.heap.size ≤ g' → S1 g' from fun g' h => by rw [hS1]; exact .inr h)
          have HSE := Lib.hid (show ∀ g', S1 g' → (G2 ≤ g' ∧ g' < C0) ∨ E ≤ g' from fun g' h => by rw [hS1] at h; rcases h with h | h; exact HS.out g' h.1; rw [hW1] at h; exact .inr (by omega))
          have HGS := Lib.hid (show ¬ S1 g from fun h => by rw [hS1] at h; rcases h with h | h; exact hgS h.1; have := (own_lt hown (g := g) rfl).1; rw [hW1] at h; omega)
          have HKEEP := Lib.hid (show ∀ W, Off S1 W1 W → OwnL W D (.slice (some ⟨g, 0, none⟩) L.length c8) L from fun W hW => own_kept HOW.out (fun g' hg' => by
            obtain rfl : g' = g := by have : g = g' := by simpa [Value.ownBlock] using hg'
                                      exact this.symm
            rw [← hW1]; exact hW.block g' (by rw [hW1]; exact (own_lt HOW.out hg').1) HGS.out))
          have HAK := Lib.hid (show ∀ W, Off S1 W1 W → DStF W (fun g => (G1 ≤ g ∧ g < G2) ∨ (C0 ≤ g ∧ g < D)) G1 es from fun W hW => (HFa6.out.off HO.out (fun g' h1 h2 => by omega)).off (hW1 ▸ hW) (fun g' h1 h2 => by have := HSE.out g' h2; omega))
          have HW1 := Lib.hid (show W1.heap.size ≤ W1.heap.size from Nat.le_refl _)
          have HWE := Lib.hid hW1
          clear hown ht hd hS hrow hb hS1 e9 hp hgS
          have HLN := Lib.hid (show L.length ≤ 300 by omega)
          by_cases hkb : n < by_.length
          · have hkbi : (n : Int) < (by_.length : Int) := by omega
            obtain ⟨bi, oi, rfl, hbi, hci⟩ := iRow_some HI.out (by omega)
            have cb := (HB.out.cell (p := ⟨bi, oi + n, none⟩) hbi).trans (hci n hkb)
            clear hci
            generalize by_[n] = bk at *
            have hj : ∃ j : Nat, j < L.length ∧ wrap64 ((IntKind.u64.wrap bk).tmod (L.length : Int)) = (j : Int) := by
              have hu : 0 ≤ IntKind.u64.wrap bk := by rw [IntKind.wrap_u64]; omega
              rw [Int.tmod_eq_emod_of_nonneg hu]
              have h1 := Int.emod_lt_of_pos (IntKind.u64.wrap bk) hlpi
              have h2 := Int.emod_nonneg (IntKind.u64.wrap bk) (show (L.length : Int) ≠ 0 by omega)
              rw [IntWalk.wrap64_in _ (by omega)]
              exact ⟨(IntKind.u64.wrap bk % (L.length : Int)).toNat, by omega, by omega⟩
            obtain ⟨j0, hi1, hjw⟩ := hj
            clear hW1
            have hkj : j0 < L.length := hi1
            go_wp2
            try (have HJW := Lib.hid hjw; clear hjw)
            go_loopw [10] (fun v10 wi => ∃ j : Nat, j < L.length ∧ v10 = .int .i64 (j : Nat) ∧ DStF wi S1 G2 esB ∧ Off S1 W1 wi) (fun v10 _ => ringM L.length v10)
            case atStart => exact ⟨j0, hkj, by first | rfl | rw [HJW.out] | go_num, HS1.out, by rw [HWE.out]; exact Off.refl _ _⟩
            case round =>
              obtain ⟨j, hj, rfl, hd, ho⟩ := hrel
              have HD3 := Lib.hid hd
              have HO3 := Lib.hid ho
              have hown3 := HKEEP.out wr ho
              have hg := (own_lt hown3 (g := g) rfl).1
              have cj := (ownS_cell hown3 j (by omega)).1
              rw [List.getElem?_map, List.getElem?_eq_getElem hj, Option.map_some] at cj
              have hxm := List.getElem_mem hj
              have HCODE := Lib.hid (HT.out.code HOK.out HNE.out hxm)
              have HXZ := Lib.hid (show (L[j]).size ≤ maxLen by
                obtain ⟨e, he, e2⟩ := List.mem_map.1 (lookE_isSome.1 (HT.out.there hxm))
                have := HOK.out.size e he
                rw [← e2]; unfold maxLen; omega)
              have HFST := Lib.hid (show j = 0 → addC esB L[j] (parE es L[j]) = 0 from fun e => by subst e; exact HT.out.first HOK.out HNE.out (by omega))
              have HSTEP := Lib.hid (HT.out.step HOK.out hj)
              have HPL := Lib.hid (HOK.out.parLen L[j])
              have HPZ := Lib.hid (fun s (hs : s ∈ parE es L[j]) => par_size HOK.out hs)
              have HAx := Lib.hid (HAK.out wr ho)
              obtain ⟨j', hj1, hj2, hj3⟩ := next_at hj
              have HJ3 := Lib.hid hj3
              have hwrap : IntKind.i64.wrap ((j : Int) + 1) = (j : Int) + 1 := by have := HLN.out; rw [IntKind.wrap_i64]; omega
              have hSz := fun g' (hg' : wr.heap.size ≤ g') => show S1 g' from HSN.out g' (Nat.le_trans HW1.out (Nat.le_trans ho.size hg'))
              have HADD := Lib.hid (fun (w10 : World) (hb : Below wr.heap.size wr w10) base n c p (hr : OwnL w10 base (.slice p n c) (parE es L[j])) wx hd => fadd_row HD3.out hSz L[j] hb hr HPL.out HPZ.out wx hd)
              have HPAR := Lib.hid (fun wx (hd : Drawn wr wx) => show Calls Try.prog 19 #[.pointer (some ⟨G1, 0, none⟩), .string L[j]] wx fun e w' => ∃ v, e = .returned v ∧ OwnL w' wx.heap.size v (parE es L[j]) ∧ Below wr.heap.size wr w' from
                (sparents (HAx.out.below (hd.below wr.heap.size) (Nat.le_refl _)).st HXZ.out).mono (fun e w' ⟨v, h1, h2, h3⟩ => ⟨v, h1, h2, (hd.below _).trans (h3.mono (by rw [hd.1]; exact Nat.le_refl _))⟩))
              have HC11 := Lib.hid (fun W (hw : Off S1 wr W) => show W.cell? ⟨g, j, none⟩ = some (.string L[j]) from by
                have h1 := hw.block g hg HGS.out
                rw [← cj]; unfold World.cell?; rw [h1])
              have cjd : wr.drew.cell? ⟨g, j, none⟩ = some (.string L[j]) := cj
              have j0i : (0 : Int) ≤ (j : Int) := by omega
              have j1i : (j : Int) < (L.length : Int) := by omega
              clear hd ho hown3 hxm hj3 hSz
              generalize L[j] = x at *
              obtain ⟨P, hP⟩ : ∃ P, P = parE es x := ⟨_, rfl⟩
              rw [← hP] at HCODE HFST HSTEP HPL HPZ HADD HPAR
              clear hP
              obtain ⟨cd, hcd⟩ : ∃ cd, cd = addC esB x P := ⟨_, rfl⟩
              rw [← hcd] at HCODE HFST HSTEP HADD
              have HCD := Lib.hid hcd
              clear hcd
              go_wp2
              go_region_held3 (fun w' => w'.cell? ⟨g, j, none⟩ = some (.string x))
                (first | exact HC11.out _ O11.out | exact (b10.cell (p := ⟨g, j, none⟩) hg).trans cj | exact cjd | exact cj | go_keep)
                (first
                | ((go_at_call 19; refine (HPAR.out _ ⟨by rfl, by rfl, by rfl, by rfl⟩).mono ?_; rintro e w10 ⟨v10, rfl, h10, b10⟩; obtain ⟨p10, c10, rfl, _⟩ := h10.form; have H10 := Lib.hid h10; clear h10))
                | ((go_at_call 14; refine (HADD.out w10 b10 _ _ _ _ H10.out _ ⟨by rfl, by rfl, by rfl, by rfl⟩).mono ?_; rintro e w11 ⟨rfl, h11, o11⟩; have H11 := Lib.hid h11; have O11 := Lib.hid o11; clear h11 o11)))
              have hc2 : cd = 0 ∨ cd = 9 := by rw [HCODE.out]; split <;> simp
              rcases hc2 with hc2 | hc2
              · have hst := HSTEP.out hc2
                have HST := Lib.hid hst
                have HDW := Lib.hid (show D ≤ w11.heap.size by have h1 := HO3.out.size; have h2 := O11.out.size; have h3 := HWE.out; rw [h3] at h1; omega)
                subst hc2
                have HO11 := Lib.hid (HO3.out.trans O11.out (fun g' _ h => h))
                have hk11 := HKEEP.out w11 HO11.out
                have HK11 := Lib.hid hk11
                have hgl := (own_lt hk11 (g := g) rfl).1
                have HB11 := Lib.hid (show Below w.heap.size w w11 from HB.out.trans (by rw [← HWE.out]; exact off_below HO11.out (fun g' hl h => by have := HSE.out g' h; omega) (by rw [HWE.out]; exact HB.out.size)))
                have hLc : L.length ≤ c8 := by obtain ⟨_, _, e9, h9, _⟩ := rowS_form hk11; injection e9 with _ _ e3; omega
                have H1 := Lib.hid (show 0 + j ≤ maxLen by have := HLN.out; unfold maxLen; omega)
                have H2 := Lib.hid (show (0 + j) * 16 ≤ 140737488355328 by have := HLN.out; omega)
                have H3 := Lib.hid (show j + (L.length - (j + 1)) ≤ maxLen by have := HLN.out; unfold maxLen; omega)
                have H4 := Lib.hid (show (j + (L.length - (j + 1))) * 16 ≤ 140737488355328 by have := HLN.out; omega)
                have HLT := Lib.hid (show ((L.take j).map Value.string).length = j * 1 by rw [List.length_map, List.length_take]; omega)
                have HLD := Lib.hid (show ((L.drop (j + 1)).map Value.string).length = (L.length - (j + 1)) * 1 by rw [List.length_map, List.length_drop]; omega)
                have HL0 := Lib.hid (show ∀ wx, Like w11 (.cells #[] 9) wx → wx.ownsRow w11.heap.size 9 1 (.slice (some ⟨w11.heap.size, 0, none⟩) 0 0) 0 [] from fun wx hl => ⟨rfl, .inr ⟨w11.heap.size, 0, #[], rfl, Nat.le_refl _, hl.new, Nat.le_refl _, Nat.zero_le _, rfl, rfl⟩⟩)
                have HS0 := Lib.hid (show ∀ wx, Like w11 (.cells #[] 9) wx → w11.heap.size ≤ wx.heap.size from fun wx hl => by have := hl.size; omega)
                have HG0 := Lib.hid (show ∀ w9, w11.grownBy w9 (Value.ownBlock (.slice (some ⟨w11.heap.size, 0, none⟩) 0 0)) → Below w11.heap.size w11 w9 from fun w9 hg => (Below.refl _ _).grown hg (Nat.le_refl _) (fun j hj => Nat.le_of_eq (by simpa [Value.ownBlock] using hj)))
                have HNW1 := Lib.hid (show ∀ wx, Like w11 (.cells #[] 9) wx → ∀ i u, ((L.take j).map Value.string)[i]? = some u → wx.cell? ((⟨g, 0, none⟩ : Addr).add i) = some u from fun wx hl => str_take HK11.out (hl.old hgl) 0 (L.take j) (fun i hi => by
                  rw [Nat.zero_add, ← List.getElem?_eq_getElem hi, List.getElem?_take_of_lt (by have := List.length_take_le j L; omega)]))
                have HNW2 := Lib.hid (show ∀ w', Below w11.heap.size w11 w' → ∀ i u, ((L.drop (j + 1)).map Value.string)[i]? = some u → w'.cell? ((⟨g, j + 1, none⟩ : Addr).add i) = some u from fun w' hb => str_take HK11.out (hb.block g hgl) (j + 1) (L.drop (j + 1)) (fun i hi => by
                  rw [← List.getElem?_eq_getElem hi, List.getElem?_drop]))
                have j2 : j + 1 ≤ L.length := by omega
                have j0x : (0 : Int) ≤ (j : Int) + 1 := by omega
                have j1 : j ≤ c8 := by omega
                have j3 : j + 1 ≤ c8 := by omega
                have j6 : (j : Int) + 1 ≤ (L.length : Int) := by omega
                have j7 : (L.length : Int) ≤ (c8 : Int) := by omega
                have j9 : ((j : Int) + 1).toNat = j + 1 := by omega
                have j11 : (j : Int) ≤ (c8 : Int) := by omega
                have j12 : (j : Int) ≤ (L.length : Int) := by omega
                have HN2 := Lib.hid (show n + 1 + (L.take j ++ L.drop (j + 1)).length ≤ 300 by rw [List.length_append, List.length_take, List.length_drop]; omega)
                have HLL := Lib.hid (show (L.take j ++ L.drop (j + 1)).length = j + (L.length - (j + 1)) by rw [List.length_append, List.length_take, List.length_drop]; omega)
                clear hst hk11 HFST HADD HPAR HCODE HC11 cj cjd HSTEP hj2 hj1
                by_cases hcm9 : j + 1 < c8
                · have j5 : ¬ c8 = j + 1 := by omega
                  go_wp2_with fail
                  go_region_held3 (fun _ => True) (trivial)
                    (first
                      | (refine step_append_row (by rfl) _ _ 30 (by rfl) w11.heap.size 9 i0 (.string ⟨#[]⟩) 1 16 Try.underlying30 I0.out Z0.out Z1.out Z2.out rfl (by decide) _ j ((L.take j).map Value.string) (by rfl) O9.out ⟨g, (j+1), none⟩ (L.length-(j+1)) (c8-(j+1)) ((L.drop (j + 1)).map Value.string) (by rfl) HLD.out ((HNW2.out) _ W9.out) (one_strs _) H3.out H4.out (by exact W9.out.size) ?_; intro v10 w12 ho10 hg10; have O10 := Lib.hid ho10; have W10 := Lib.hid (W9.out.grown hg10 W9.out.size (fun j hj => (own_lt O9.out hj).2.1)); obtain ⟨p10', c10', rfl, _⟩ := rowS_form ho10; clear ho10 hg10)
                      | (refine step_append_row (by rfl) _ _ 30 (by rfl) w11.heap.size 9 i0 (.string ⟨#[]⟩) 1 16 Try.underlying30 I0.out Z0.out Z1.out Z2.out rfl (by decide) _ 0 [] (by rfl) (HL0.out _ ⟨by rfl, by rfl, by rfl, by rfl⟩) ⟨g, 0, none⟩ j c8 ((L.take j).map Value.string) (by rfl) HLT.out (HNW1.out _ ⟨by rfl, by rfl, by rfl, by rfl⟩) (one_strs _) H1.out H2.out (HS0.out _ ⟨by rfl, by rfl, by rfl, by rfl⟩) ?_; intro v9 w9 ho9 hg9; have O9 := Lib.hid (show w9.ownsRow w11.heap.size 9 1 v9 j ((L.take j).map Value.string) by simpa using ho9); have W9 := Lib.hid (HG0.out w9 (Like.grown (o := .cells #[] 9) ⟨by rfl, by rfl, by rfl, by rfl⟩ hg9)); obtain ⟨p9, c9, rfl, _⟩ := rowS_form ho9; clear ho9 hg9))
                  go_wp2
                  go_roundw
                  case rel =>
                    have hS2 : ∀ g', (S1 g' ∧ g' < w11.heap.size) → (G2 ≤ g' ∧ g' < C0) ∨ E ≤ g' := fun g' h => HSE.out g' h.1
                    have hz11 := HO11.out.size
                    have hW1s := HWE.out
                    have hO12 : Off (fun g => (G2 ≤ g ∧ g < C0) ∨ E ≤ g) w6 w12 := HO.out.trans ((by rw [← hW1s]; exact HO11.out.mono (fun g' _ h => HSE.out g' h)) : Off (fun g => (G2 ≤ g ∧ g < C0) ∨ E ≤ g) _ w11) (fun g' _ h => h) |>.trans (Off.of_new W10.out (fun g => (G2 ≤ g ∧ g < C0) ∨ E ≤ g)) (fun g' _ h => h)
                    refine ⟨n + 1, L.take j ++ L.drop (j + 1), addE esB x P, fun g' => S1 g' ∧ g' < w11.heap.size, by go_num, HN2.out, ?_, HST.out, ?_, hS2, fun g' hg' h => ?_, hO12, ?_⟩
                    · have ho := O10.out
                      rw [← List.map_append] at ho
                      have h1 : w12.ownsRow D 9 1 (.slice p10' (j + (L.length-(j+1))) c10') (j + (L.length-(j+1))) ((L.take j ++ L.drop (j + 1)).map Value.string) := own_base ho (by have := HDW.out; have := W10.out.size; omega)
                      unfold OwnL
                      rw [HLL.out]
                      exact h1
                    · exact (H11.out.mono (fun g' hl hg => ⟨hg, hl⟩)).new W10.out
                    · have h5 := (own_lt O10.out hg').2.1
                      have h6 := h.2
                      omega
                    · have := W10.out.size
                      rw [← hW1s] at hs
                      omega
                  case measure => show j + (L.length-(j+1)) < L.length; omega
                · have hce : c8 = j + 1 := by omega
                  subst hce
                  have j13 : (j : Int) + 1 ≤ (j : Int) + 1 := by omega
                  have hm0 : L.length - (j + 1) = 0 := by omega
                  rw [hm0] at HLD H3 H4 HLL
                  have HNW3 := Lib.hid (show ∀ w', Below w11.heap.size w11 w' → ∀ i u, ((L.drop (j + 1)).map Value.string)[i]? = some u → w'.cell? ((⟨g, 0, none⟩ : Addr).add i) = some u from fun w' hb i u hu => by
                    have := (List.getElem?_eq_some_iff.1 hu).1
                    rw [HLD.out] at this; omega)
                  clear hm0
                  have r1 : ∀ n : Nat, (n ≤ n + 1) = True := fun n => eq_true (by omega)
                  have r2 : ∀ n : Int, (n ≤ n + 1) = True := fun n => eq_true (by omega)
                  have r3 : ∀ n : Int, (n + 1 ≤ n + 1) = True := fun n => eq_true (by omega)
                  go_wp2_with fail
                  go_region_held3 (fun _ => True) (trivial)
                    (first
                      | (refine step_append_row (by rfl) _ _ 30 (by rfl) w11.heap.size 9 i0 (.string ⟨#[]⟩) 1 16 Try.underlying30 I0.out Z0.out Z1.out Z2.out rfl (by decide) _ j ((L.take j).map Value.string) (by rfl) O9.out ⟨g, 0, none⟩ 0 0 ((L.drop (j + 1)).map Value.string) (by rfl) HLD.out ((HNW3.out) _ W9.out) (one_strs _) H3.out H4.out (by exact W9.out.size) ?_; intro v10 w12 ho10 hg10; have O10 := Lib.hid ho10; have W10 := Lib.hid (W9.out.grown hg10 W9.out.size (fun j hj => (own_lt O9.out hj).2.1)); obtain ⟨p10', c10', rfl, _⟩ := rowS_form ho10; clear ho10 hg10)
                      | (refine step_append_row (by rfl) _ _ 30 (by rfl) w11.heap.size 9 i0 (.string ⟨#[]⟩) 1 16 Try.underlying30 I0.out Z0.out Z1.out Z2.out rfl (by decide) _ 0 [] (by rfl) (HL0.out _ ⟨by rfl, by rfl, by rfl, by rfl⟩) ⟨g, 0, none⟩ j (j+1) ((L.take j).map Value.string) (by rfl) HLT.out (HNW1.out _ ⟨by rfl, by rfl, by rfl, by rfl⟩) (one_strs _) H1.out H2.out (HS0.out _ ⟨by rfl, by rfl, by rfl, by rfl⟩) ?_; intro v9 w9 ho9 hg9; have O9 := Lib.hid (show w9.ownsRow w11.heap.size 9 1 v9 j ((L.take j).map Value.string) by simpa using ho9); have W9 := Lib.hid (HG0.out w9 (Like.grown (o := .cells #[] 9) ⟨by rfl, by rfl, by rfl, by rfl⟩ hg9)); obtain ⟨p9, c9, rfl, _⟩ := rowS_form ho9; clear ho9 hg9))
                  go_wp2
                  go_roundw
                  case rel =>
                    have hS2 : ∀ g', (S1 g' ∧ g' < w11.heap.size) → (G2 ≤ g' ∧ g' < C0) ∨ E ≤ g' := fun g' h => HSE.out g' h.1
                    have hz11 := HO11.out.size
                    have hW1s := HWE.out
                    have hO12 : Off (fun g => (G2 ≤ g ∧ g < C0) ∨ E ≤ g) w6 w12 := HO.out.trans ((by rw [← hW1s]; exact HO11.out.mono (fun g' _ h => HSE.out g' h)) : Off (fun g => (G2 ≤ g ∧ g < C0) ∨ E ≤ g) _ w11) (fun g' _ h => h) |>.trans (Off.of_new W10.out (fun g => (G2 ≤ g ∧ g < C0) ∨ E ≤ g)) (fun g' _ h => h)
                    refine ⟨n + 1, L.take j ++ L.drop (j + 1), addE esB x P, fun g' => S1 g' ∧ g' < w11.heap.size, by go_num, HN2.out, ?_, HST.out, ?_, hS2, fun g' hg' h => ?_, hO12, ?_⟩
                    · have ho := O10.out
                      rw [← List.map_append] at ho
                      have h1 : w12.ownsRow D 9 1 (.slice p10' (j + 0) c10') (j + 0) ((L.take j ++ L.drop (j + 1)).map Value.string) := own_base ho (by have := HDW.out; have := W10.out.size; omega)
                      unfold OwnL
                      rw [HLL.out]
                      exact h1
                    · exact (H11.out.mono (fun g' hl hg => ⟨hg, hl⟩)).new W10.out
                    · have h5 := (own_lt O10.out hg').2.1
                      have h6 := h.2
                      omega
                    · have := W10.out.size
                      rw [← hW1s] at hs
                      omega
                  case measure => show j + 0 < L.length; omega
              · subst hc2
                have hjn : j ≠ 0 := fun e => absurd (HFST.out e) (by decide)
                have HAE := Lib.hid (show addE esB x P = esB by unfold addE; rw [← HCD.out, if_neg (by decide)])
                clear HADD HPAR HCODE HC11 cj cjd HSTEP HFST
                go_wp2
                go_roundw
                case rel => exact ⟨j', hj1, by go_num, by rw [← HAE.out]; exact H11.out, HO3.out.trans O11.out (fun g' _ h => h)⟩
                case measure => exact ring_lt hj hj1 hjn (HJ3.out hjn)
          · have hkbi : ¬ ((n : Int) < (by_.length : Int)) := by omega
            clear hW1
            have hkj : 0 < L.length := hlp
            go_wp2
            try (have HJW := Lib.hid hjw; clear hjw)
            go_loopw [10] (fun v10 wi => ∃ j : Nat, j < L.length ∧ v10 = .int .i64 (j : Nat) ∧ DStF wi S1 G2 esB ∧ Off S1 W1 wi) (fun v10 _ => ringM L.length v10)
            case atStart => exact ⟨0, hkj, by first | rfl | rw [HJW.out] | go_num, HS1.out, by rw [HWE.out]; exact Off.refl _ _⟩
            case round =>
              obtain ⟨j, hj, rfl, hd, ho⟩ := hrel
              have HD3 := Lib.hid hd
              have HO3 := Lib.hid ho
              have hown3 := HKEEP.out wr ho
              have hg := (own_lt hown3 (g := g) rfl).1
              have cj := (ownS_cell hown3 j (by omega)).1
              rw [List.getElem?_map, List.getElem?_eq_getElem hj, Option.map_some] at cj
              have hxm := List.getElem_mem hj
              have HCODE := Lib.hid (HT.out.code HOK.out HNE.out hxm)
              have HXZ := Lib.hid (show (L[j]).size ≤ maxLen by
                obtain ⟨e, he, e2⟩ := List.mem_map.1 (lookE_isSome.1 (HT.out.there hxm))
                have := HOK.out.size e he
                rw [← e2]; unfold maxLen; omega)
              have HFST := Lib.hid (show j = 0 → addC esB L[j] (parE es L[j]) = 0 from fun e => by subst e; exact HT.out.first HOK.out HNE.out (by omega))
              have HSTEP := Lib.hid (HT.out.step HOK.out hj)
              have HPL := Lib.hid (HOK.out.parLen L[j])
              have HPZ := Lib.hid (fun s (hs : s ∈ parE es L[j]) => par_size HOK.out hs)
              have HAx := Lib.hid (HAK.out wr ho)
              obtain ⟨j', hj1, hj2, hj3⟩ := next_at hj
              have HJ3 := Lib.hid hj3
              have hwrap : IntKind.i64.wrap ((j : Int) + 1) = (j : Int) + 1 := by have := HLN.out; rw [IntKind.wrap_i64]; omega
              have hSz := fun g' (hg' : wr.heap.size ≤ g') => show S1 g' from HSN.out g' (Nat.le_trans HW1.out (Nat.le_trans ho.size hg'))
              have HADD := Lib.hid (fun (w10 : World) (hb : Below wr.heap.size wr w10) base n c p (hr : OwnL w10 base (.slice p n c) (parE es L[j])) wx hd => fadd_row HD3.out hSz L[j] hb hr HPL.out HPZ.out wx hd)
              have HPAR := Lib.hid (fun wx (hd : Drawn wr wx) => show Calls Try.prog 19 #[.pointer (some ⟨G1, 0, none⟩), .string L[j]] wx fun e w' => ∃ v, e = .returned v ∧ OwnL w' wx.heap.size v (parE es L[j]) ∧ Below wr.heap.size wr w' from
                (sparents (HAx.out.below (hd.below wr.heap.size) (Nat.le_refl _)).st HXZ.out).mono (fun e w' ⟨v, h1, h2, h3⟩ => ⟨v, h1, h2, (hd.below _).trans (h3.mono (by rw [hd.1]; exact Nat.le_refl _))⟩))
              have HC11 := Lib.hid (fun W (hw : Off S1 wr W) => show W.cell? ⟨g, j, none⟩ = some (.string L[j]) from by
                have h1 := hw.block g hg HGS.out
                rw [← cj]; unfold World.cell?; rw [h1])
              have cjd : wr.drew.cell? ⟨g, j, none⟩ = some (.string L[j]) := cj
              have j0i : (0 : Int) ≤ (j : Int) := by omega
              have j1i : (j : Int) < (L.length : Int) := by omega
              clear hd ho hown3 hxm hj3 hSz
              generalize L[j] = x at *
              obtain ⟨P, hP⟩ : ∃ P, P = parE es x := ⟨_, rfl⟩
              rw [← hP] at HCODE HFST HSTEP HPL HPZ HADD HPAR
              clear hP
              obtain ⟨cd, hcd⟩ : ∃ cd, cd = addC esB x P := ⟨_, rfl⟩
              rw [← hcd] at HCODE HFST HSTEP HADD
              have HCD := Lib.hid hcd
              clear hcd
              go_wp2
              go_region_held3 (fun w' => w'.cell? ⟨g, j, none⟩ = some (.string x))
                (first | exact HC11.out _ O11.out | exact (b10.cell (p := ⟨g, j, none⟩) hg).trans cj | exact cjd | exact cj | go_keep)
                (first
                | ((go_at_call 19; refine (HPAR.out _ ⟨by rfl, by rfl, by rfl, by rfl⟩).mono ?_; rintro e w10 ⟨v10, rfl, h10, b10⟩; obtain ⟨p10, c10, rfl, _⟩ := h10.form; have H10 := Lib.hid h10; clear h10))
                | ((go_at_call 14; refine (HADD.out w10 b10 _ _ _ _ H10.out _ ⟨by rfl, by rfl, by rfl, by rfl⟩).mono ?_; rintro e w11 ⟨rfl, h11, o11⟩; have H11 := Lib.hid h11; have O11 := Lib.hid o11; clear h11 o11)))
              have hc2 : cd = 0 ∨ cd = 9 := by rw [HCODE.out]; split <;> simp
              rcases hc2 with hc2 | hc2
              · have hst := HSTEP.out hc2
                have HST := Lib.hid hst
                have HDW := Lib.hid (show D ≤ w11.heap.size by have h1 := HO3.out.size; have h2 := O11.out.size; have h3 := HWE.out; rw [h3] at h1; omega)
                subst hc2
                have HO11 := Lib.hid (HO3.out.trans O11.out (fun g' _ h => h))
                have hk11 := HKEEP.out w11 HO11.out
                have HK11 := Lib.hid hk11
                have hgl := (own_lt hk11 (g := g) rfl).1
                have HB11 := Lib.hid (show Below w.heap.size w w11 from HB.out.trans (by rw [← HWE.out]; exact off_below HO11.out (fun g' hl h => by have := HSE.out g' h; omega) (by rw [HWE.out]; exact HB.out.size)))
                have hLc : L.length ≤ c8 := by obtain ⟨_, _, e9, h9, _⟩ := rowS_form hk11; injection e9 with _ _ e3; omega
                have H1 := Lib.hid (show 0 + j ≤ maxLen by have := HLN.out; unfold maxLen; omega)
                have H2 := Lib.hid (show (0 + j) * 16 ≤ 140737488355328 by have := HLN.out; omega)
                have H3 := Lib.hid (show j + (L.length - (j + 1)) ≤ maxLen by have := HLN.out; unfold maxLen; omega)
                have H4 := Lib.hid (show (j + (L.length - (j + 1))) * 16 ≤ 140737488355328 by have := HLN.out; omega)
                have HLT := Lib.hid (show ((L.take j).map Value.string).length = j * 1 by rw [List.length_map, List.length_take]; omega)
                have HLD := Lib.hid (show ((L.drop (j + 1)).map Value.string).length = (L.length - (j + 1)) * 1 by rw [List.length_map, List.length_drop]; omega)
                have HL0 := Lib.hid (show ∀ wx, Like w11 (.cells #[] 9) wx → wx.ownsRow w11.heap.size 9 1 (.slice (some ⟨w11.heap.size, 0, none⟩) 0 0) 0 [] from fun wx hl => ⟨rfl, .inr ⟨w11.heap.size, 0, #[], rfl, Nat.le_refl _, hl.new, Nat.le_refl _, Nat.zero_le _, rfl, rfl⟩⟩)
                have HS0 := Lib.hid (show ∀ wx, Like w11 (.cells #[] 9) wx → w11.heap.size ≤ wx.heap.size from fun wx hl => by have := hl.size; omega)
                have HG0 := Lib.hid (show ∀ w9, w11.grownBy w9 (Value.ownBlock (.slice (some ⟨w11.heap.size, 0, none⟩) 0 0)) → Below w11.heap.size w11 w9 from fun w9 hg => (Below.refl _ _).grown hg (Nat.le_refl _) (fun j hj => Nat.le_of_eq (by simpa [Value.ownBlock] using hj)))
                have HNW1 := Lib.hid (show ∀ wx, Like w11 (.cells #[] 9) wx → ∀ i u, ((L.take j).map Value.string)[i]? = some u → wx.cell? ((⟨g, 0, none⟩ : Addr).add i) = some u from fun wx hl => str_take HK11.out (hl.old hgl) 0 (L.take j) (fun i hi => by
                  rw [Nat.zero_add, ← List.getElem?_eq_getElem hi, List.getElem?_take_of_lt (by have := List.length_take_le j L; omega)]))
                have HNW2 := Lib.hid (show ∀ w', Below w11.heap.size w11 w' → ∀ i u, ((L.drop (j + 1)).map Value.string)[i]? = some u → w'.cell? ((⟨g, j + 1, none⟩ : Addr).add i) = some u from fun w' hb => str_take HK11.out (hb.block g hgl) (j + 1) (L.drop (j + 1)) (fun i hi => by
                  rw [← List.getElem?_eq_getElem hi, List.getElem?_drop]))
                have j2 : j + 1 ≤ L.length := by omega
                have j0x : (0 : Int) ≤ (j : Int) + 1 := by omega
                have j1 : j ≤ c8 := by omega
                have j3 : j + 1 ≤ c8 := by omega
                have j6 : (j : Int) + 1 ≤ (L.length : Int) := by omega
                have j7 : (L.length : Int) ≤ (c8 : Int) := by omega
                have j9 : ((j : Int) + 1).toNat = j + 1 := by omega
                have j11 : (j : Int) ≤ (c8 : Int) := by omega
                have j12 : (j : Int) ≤ (L.length : Int) := by omega
                have HN2 := Lib.hid (show n + 1 + (L.take j ++ L.drop (j + 1)).length ≤ 300 by rw [List.length_append, List.length_take, List.length_drop]; omega)
                have HLL := Lib.hid (show (L.take j ++ L.drop (j + 1)).length = j + (L.length - (j + 1)) by rw [List.length_append, List.length_take, List.length_drop]; omega)
                clear hst hk11 HFST HADD HPAR HCODE HC11 cj cjd HSTEP hj2 hj1
                by_cases hcm9 : j + 1 < c8
                · have j5 : ¬ c8 = j + 1 := by omega
                  go_wp2_with fail
                  go_region_held3 (fun _ => True) (trivial)
                    (first
                      | (refine step_append_row (by rfl) _ _ 30 (by rfl) w11.heap.size 9 i0 (.string ⟨#[]⟩) 1 16 Try.underlying30 I0.out Z0.out Z1.out Z2.out rfl (by decide) _ j ((L.take j).map Value.string) (by rfl) O9.out ⟨g, (j+1), none⟩ (L.length-(j+1)) (c8-(j+1)) ((L.drop (j + 1)).map Value.string) (by rfl) HLD.out ((HNW2.out) _ W9.out) (one_strs _) H3.out H4.out (by exact W9.out.size) ?_; intro v10 w12 ho10 hg10; have O10 := Lib.hid ho10; have W10 := Lib.hid (W9.out.grown hg10 W9.out.size (fun j hj => (own_lt O9.out hj).2.1)); obtain ⟨p10', c10', rfl, _⟩ := rowS_form ho10; clear ho10 hg10)
                      | (refine step_append_row (by rfl) _ _ 30 (by rfl) w11.heap.size 9 i0 (.string ⟨#[]⟩) 1 16 Try.underlying30 I0.out Z0.out Z1.out Z2.out rfl (by decide) _ 0 [] (by rfl) (HL0.out _ ⟨by rfl, by rfl, by rfl, by rfl⟩) ⟨g, 0, none⟩ j c8 ((L.take j).map Value.string) (by rfl) HLT.out (HNW1.out _ ⟨by rfl, by rfl, by rfl, by rfl⟩) (one_strs _) H1.out H2.out (HS0.out _ ⟨by rfl, by rfl, by rfl, by rfl⟩) ?_; intro v9 w9 ho9 hg9; have O9 := Lib.hid (show w9.ownsRow w11.heap.size 9 1 v9 j ((L.take j).map Value.string) by simpa using ho9); have W9 := Lib.hid (HG0.out w9 (Like.grown (o := .cells #[] 9) ⟨by rfl, by rfl, by rfl, by rfl⟩ hg9)); obtain ⟨p9, c9, rfl, _⟩ := rowS_form ho9; clear ho9 hg9))
                  go_wp2
                  go_roundw
                  case rel =>
                    have hS2 : ∀ g', (S1 g' ∧ g' < w11.heap.size) → (G2 ≤ g' ∧ g' < C0) ∨ E ≤ g' := fun g' h => HSE.out g' h.1
                    have hz11 := HO11.out.size
                    have hW1s := HWE.out
                    have hO12 : Off (fun g => (G2 ≤ g ∧ g < C0) ∨ E ≤ g) w6 w12 := HO.out.trans ((by rw [← hW1s]; exact HO11.out.mono (fun g' _ h => HSE.out g' h)) : Off (fun g => (G2 ≤ g ∧ g < C0) ∨ E ≤ g) _ w11) (fun g' _ h => h) |>.trans (Off.of_new W10.out (fun g => (G2 ≤ g ∧ g < C0) ∨ E ≤ g)) (fun g' _ h => h)
                    refine ⟨n + 1, L.take j ++ L.drop (j + 1), addE esB x P, fun g' => S1 g' ∧ g' < w11.heap.size, by go_num, HN2.out, ?_, HST.out, ?_, hS2, fun g' hg' h => ?_, hO12, ?_⟩
                    · have ho := O10.out
                      rw [← List.map_append] at ho
                      have h1 : w12.ownsRow D 9 1 (.slice p10' (j + (L.length-(j+1))) c10') (j + (L.length-(j+1))) ((L.take j ++ L.drop (j + 1)).map Value.string) := own_base ho (by have := HDW.out; have := W10.out.size; omega)
                      unfold OwnL
                      rw [HLL.out]
                      exact h1
                    · exact (H11.out.mono (fun g' hl hg => ⟨hg, hl⟩)).new W10.out
                    · have h5 := (own_lt O10.out hg').2.1
                      have h6 := h.2
                      omega
                    · have := W10.out.size
                      rw [← hW1s] at hs
                      omega
                  case measure => show j + (L.length-(j+1)) < L.length; omega
                · have hce : c8 = j + 1 := by omega
                  subst hce
                  have j13 : (j : Int) + 1 ≤ (j : Int) + 1 := by omega
                  have hm0 : L.length - (j + 1) = 0 := by omega
                  rw [hm0] at HLD H3 H4 HLL
                  have HNW3 := Lib.hid (show ∀ w', Below w11.heap.size w11 w' → ∀ i u, ((L.drop (j + 1)).map Value.string)[i]? = some u → w'.cell? ((⟨g, 0, none⟩ : Addr).add i) = some u from fun w' hb i u hu => by
                    have := (List.getElem?_eq_some_iff.1 hu).1
                    rw [HLD.out] at this; omega)
                  clear hm0
                  have r1 : ∀ n : Nat, (n ≤ n + 1) = True := fun n => eq_true (by omega)
                  have r2 : ∀ n : Int, (n ≤ n + 1) = True := fun n => eq_true (by omega)
                  have r3 : ∀ n : Int, (n + 1 ≤ n + 1) = True := fun n => eq_true (by omega)
                  go_wp2_with fail
                  go_region_held3 (fun _ => True) (trivial)
                    (first
                      | (refine step_append_row (by rfl) _ _ 30 (by rfl) w11.heap.size 9 i0 (.string ⟨#[]⟩) 1 16 Try.underlying30 I0.out Z0.out Z1.out Z2.out rfl (by decide) _ j ((L.take j).map Value.string) (by rfl) O9.out ⟨g, 0, none⟩ 0 0 ((L.drop (j + 1)).map Value.string) (by rfl) HLD.out ((HNW3.out) _ W9.out) (one_strs _) H3.out H4.out (by exact W9.out.size) ?_; intro v10 w12 ho10 hg10; have O10 := Lib.hid ho10; have W10 := Lib.hid (W9.out.grown hg10 W9.out.size (fun j hj => (own_lt O9.out hj).2.1)); obtain ⟨p10', c10', rfl, _⟩ := rowS_form ho10; clear ho10 hg10)
                      | (refine step_append_row (by rfl) _ _ 30 (by rfl) w11.heap.size 9 i0 (.string ⟨#[]⟩) 1 16 Try.underlying30 I0.out Z0.out Z1.out Z2.out rfl (by decide) _ 0 [] (by rfl) (HL0.out _ ⟨by rfl, by rfl, by rfl, by rfl⟩) ⟨g, 0, none⟩ j (j+1) ((L.take j).map Value.string) (by rfl) HLT.out (HNW1.out _ ⟨by rfl, by rfl, by rfl, by rfl⟩) (one_strs _) H1.out H2.out (HS0.out _ ⟨by rfl, by rfl, by rfl, by rfl⟩) ?_; intro v9 w9 ho9 hg9; have O9 := Lib.hid (show w9.ownsRow w11.heap.size 9 1 v9 j ((L.take j).map Value.string) by simpa using ho9); have W9 := Lib.hid (HG0.out w9 (Like.grown (o := .cells #[] 9) ⟨by rfl, by rfl, by rfl, by rfl⟩ hg9)); obtain ⟨p9, c9, rfl, _⟩ := rowS_form ho9; clear ho9 hg9))
                  go_wp2
                  go_roundw
                  case rel =>
                    have hS2 : ∀ g', (S1 g' ∧ g' < w11.heap.size) → (G2 ≤ g' ∧ g' < C0) ∨ E ≤ g' := fun g' h => HSE.out g' h.1
                    have hz11 := HO11.out.size
                    have hW1s := HWE.out
                    have hO12 : Off (fun g => (G2 ≤ g ∧ g < C0) ∨ E ≤ g) w6 w12 := HO.out.trans ((by rw [← hW1s]; exact HO11.out.mono (fun g' _ h => HSE.out g' h)) : Off (fun g => (G2 ≤ g ∧ g < C0) ∨ E ≤ g) _ w11) (fun g' _ h => h) |>.trans (Off.of_new W10.out (fun g => (G2 ≤ g ∧ g < C0) ∨ E ≤ g)) (fun g' _ h => h)
                    refine ⟨n + 1, L.take j ++ L.drop (j + 1), addE esB x P, fun g' => S1 g' ∧ g' < w11.heap.size, by go_num, HN2.out, ?_, HST.out, ?_, hS2, fun g' hg' h => ?_, hO12, ?_⟩
                    · have ho := O10.out
                      rw [← List.map_append] at ho
                      have h1 : w12.ownsRow D 9 1 (.slice p10' (j + 0) c10') (j + 0) ((L.take j ++ L.drop (j + 1)).map Value.string) := own_base ho (by have := HDW.out; have := W10.out.size; omega)
                      unfold OwnL
                      rw [HLL.out]
                      exact h1
                    · exact (H11.out.mono (fun g' hl hg => ⟨hg, hl⟩)).new W10.out
                    · have h5 := (own_lt O10.out hg').2.1
                      have h6 := h.2
                      omega
                    · have := W10.out.size
                      rw [← hW1s] at hs
                      omega
                  case measure => show j + 0 < L.length; omega
              · subst hc2
                have hjn : j ≠ 0 := fun e => absurd (HFST.out e) (by decide)
                have HAE := Lib.hid (show addE esB x P = esB by unfold addE; rw [← HCD.out, if_neg (by decide)])
                clear HADD HPAR HCODE HC11 cj cjd HSTEP HFST
                go_wp2
                go_roundw
                case rel => exact ⟨j', hj1, by go_num, by rw [← HAE.out]; exact H11.out, HO3.out.trans O11.out (fun g' _ h => h)⟩
                case measure => exact ring_lt hj hj1 hjn (HJ3.out hjn)

theorem own : ownKnob Try.prog.godebug = none := by kernel_rfl
theorem laidOut : laidOutB Try.prog = true := by kernel_rfl

set_option maxRecDepth 100000 in
theorem lifted (os : Os) (started : os.Started) (H : Type) (enc : TypeId × Value → H) :
    ReturnsInHanded {} Try.checked os 6 .any (Rows.dagTurnedSpec.pre6 enc Try.prog Try.f6 Rows.dagTurnedRow.domain false) (Rows.dagTurnedSpec.post enc Try.prog Try.f6 false true false false) := by
  refine returnsInHanded_of_change_sized (C := Try.checked) own started (by kernel_rfl) Try.func6
    (ChangeSpec.witness6 (enc := enc) (C := Try.checked) false ⟨#[], #[.slice none 0 0, .slice none 0 0], []⟩ 8 (by kernel_rfl) (by kernel_rfl) (by kernel_rfl) (by kernel_rfl)) ?_
  intro W base args ds gs before hval0 hW _ hsz0 _
  have hsz : (DataW.weightsEach Try.prog (Try.f6.params.toList ++ Rows.dagTurnedSpec.plain.varTypes Try.prog) (ds ++ gs)).all (· ≤ reachBytes) = true := hsz0
  clear hsz0
  have hval : ∀ (j : Nat) t v, Try.f6.params[j]? = some t → args[j]? = some v → Value.okWide Try.prog W .any base t v := hval0
  have hW' := hW
  obtain ⟨p, q, hA0, hV, rfl, hfz, hnd⟩ := hW
  have hA : DataW.TrodAll enc Try.prog W 0 (fun _ => true) true Try.f6.params.toList args.toList ds p := hA0
  rw [Try.params6] at hA hval hsz
  obtain ⟨v0, vs0, d0, ds0, p0, q0, hargs, rfl, rfl, h0, r0⟩ := trodAll_cons hA
  obtain ⟨v1, vs1, d1, ds1, p1, q1, rfl, rfl, rfl, h1, r1⟩ := trodAll_cons r0
  obtain ⟨rfl, rfl, rfl⟩ := trodAll_nil r1
  obtain rfl : args = #[v0, v1] := by cases args; simp_all
  obtain ⟨rfl, rfl⟩ := trodVars_none hV
  obtain ⟨x0, len0, cap0, rfl⟩ := okWide_slice Try.underlying22 (hval 0 22 v0 rfl rfl)
  have k0 := h0
  have lt0 : ∀ x ∈ p0, x.block < W.heap.size := by obtain ⟨m, hm⟩ := k0; exact DataW.trod_lt m _ _ _ hm
  obtain ⟨l0, rfl, i0⟩ : ∃ l : List En, len0 = l.length ∧ EnsAt W x0 l := by
    obtain ⟨fuel, hf⟩ := h0
    exact ens_of (show DataW.trod enc Try.prog W 0 (fun _ => true) true fuel 22 [.slice x0 len0 cap0] = some _ from hf) (lo_each hsz (j := 0) rfl rfl)
  obtain ⟨x1, len1, cap1, rfl⟩ := okWide_slice Try.underlying46 (hval 1 46 v1 rfl rfl)
  have k1 := h1
  have lt1 : ∀ x ∈ p1, x.block < W.heap.size := by obtain ⟨m, hm⟩ := k1; exact DataW.trod_lt m _ _ _ hm
  obtain ⟨l1, rfl, i1, m1⟩ : ∃ l : List Int, len1 = l.length ∧ IntRow W x1 l ∧ IntsOk l := by
    obtain ⟨fuel, hf⟩ := h1
    obtain ⟨a, l, cap, e, hr, hk⟩ := ints_of (show DataW.trod enc Try.prog W 0 (fun _ => true) true fuel 46 [.slice x1 len1 cap1] = some _ from hf)
    cases e
    exact ⟨l, rfl, hr, hk⟩
  clear hA0 hval0
  refine (walk x0 cap0 l0 x1 cap1 l1  W i0 i1 m1).mono fun e W' ⟨he, bel⟩ => ?_
  subst he
  exact ⟨_, rfl, _, _, _, [], _, [], hW', trodAll_mk1 (shut_bool Try.underlying4 _), (trodAll_cons_mk (Below.trod laidOut (by kernel_rfl) (of_decide_eq_true (by kernel_rfl)) k0 bel lt0) (trodAll_cons_mk (Below.trod laidOut (by kernel_rfl) (of_decide_eq_true (by kernel_rfl)) k1 bel lt1) trodAll_mk0)), rfl, bel.frame _, fun h => by cases h⟩

theorem over : Rows.dagTurnedRow.holds Try.pinned (OpenSpec.ofChange Rows.dagTurnedSpec) :=
  OpenClaim.holds_of_wide 6 Try.f6 rfl rfl rfl rfl rfl rfl rfl ⟨rfl, rfl, rfl, rfl, rfl⟩ rfl rfl rfl rfl rfl (by kernel_rfl) Try.func6 (by kernel_rfl)
    (of_decide_eq_true (by kernel_rfl)) (by unfold Func.isWrapper; first | (rw [if_pos (by decide +kernel)]; kernel_rfl) | (rw [if_neg (by decide +kernel)]; exact ⟨rfl, rfl⟩))
    (fun os started H enc _ => lifted os started H enc)

end Go.Proofs.Ytabongfoeoideaa.DagTurned
namespace Go.Proofs.Ytabongfoeoideaa
theorem dagTurned_holds : Rows.DagTurnedSaid := DagTurned.over
#print axioms dagTurned_holds
end Go.Proofs.Ytabongfoeoideaa

