/-
  P13.1: whatever is put, comes and is dropped: each answer, and who waits for what behind it: for every number of places and every list of acts.
  No condition beside the form's own.
-/
import Derived.Test.YtalpmnmpggljcaaWm5
import Derived.Deep.RegionLaw
import Derived.Deep.AppendLies
import Derived.Test.YtalpmnmpggljcaaGr
import Derived.Deep.RegionHeld3
namespace Go.Proofs.Ytalpmnmpggljcaa.WaitPlays
open Go.ChangeShapes Go.WideShapes Go.ChangeAt Go.RowKit Go.Pal Go.Pal.Dk
open Go.ChangeMaps (open_string shut_string)
set_option linter.unusedVariables false

/-- What is known of each that waits. -/
def MoOk (p : Mo) : Prop := p.x.miss.length ≤ 60 ∧ p.x.id.size ≤ 281474976710656 ∧ ∀ s ∈ p.x.miss, s.size ≤ 281474976710656
theorem missW_le {ms : List Mo} (hl : ms.length ≤ 60) (h : ∀ p ∈ ms, MoOk p) : (missW (wsOf ms)).length ≤ maxLen := by
  have h1 := outM_le (ws := wsOf ms) (by rw [wsOf_length]; exact hl) (fun x hx => by obtain ⟨q, hq, rfl⟩ := List.mem_map.1 hx; exact (h q hq).1) (wsOf ms).length 0
  have h2 := rise_le (outM (wsOf ms) (wsOf ms).length 0)
  rw [outM_end] at h2
  unfold maxLen; omega
theorem tl_len {wt : World} {B W places : Nat} {v : Value} {ws : List Wt} (h : WaitAt wt B W places v ws) (wq : World) (hq : Below wt.heap.size wt wq) : Calls Try.prog 43 #[.pointer (some ⟨W, 0, none⟩)] wq fun e w' => e = .returned (.int .i64 (ws.length : Int)) ∧ Below wt.heap.size wt w' := by
  refine (wlen_at (h.below hq (Nat.le_refl _))).mono ?_
  rintro e w' ⟨rfl, rfl⟩
  exact ⟨rfl, hq⟩
theorem tl_has {wt : World} {B W places : Nat} {v : Value} {ws : List Wt} (h : WaitAt wt B W places v ws) (s : ByteArray) (wq : World) (hq : Below wt.heap.size wt wq) : Calls Try.prog 44 #[.pointer (some ⟨W, 0, none⟩), .string s] wq fun e w' => e = .returned (.bool (findW ws s).isSome) ∧ Below wt.heap.size wt w' := by
  refine (whas_at (h.below hq (Nat.le_refl _)) s).mono ?_
  rintro e w' ⟨rfl, b⟩
  exact ⟨rfl, hq.trans (b.mono hq.size)⟩
theorem tl_find {wt : World} {base : Nat} {v : Value} {ms : List Mo} (h : ModAt wt base v ms) (s : ByteArray) (wq : World) (hq : Below wt.heap.size wt wq) : Calls Try.prog 38 #[v, .string s] wq fun e w' => e = .returned (.int .i64 (findI (wsOf ms) s)) ∧ Below wt.heap.size wt w' := by
  refine (lfind_any (h.below hq (Nat.le_refl _)) s).mono ?_
  rintro e w' ⟨rfl, rfl⟩
  exact ⟨rfl, hq⟩
theorem tl_miss {wt : World} {B W places : Nat} {v : Value} {ms : List Mo} (h : WaitAt wt B W places v (wsOf ms)) (hl : (wsOf ms).length ≤ 300) (ho : ∀ p ∈ ms, MoOk p) (wq : World) (hq : Below wt.heap.size wt wq) : Calls Try.prog 45 #[.pointer (some ⟨W, 0, none⟩)] wq fun e w' => ∃ p c, e = .returned (.slice p (missW (wsOf ms)).length c) ∧ StrRow w' p (missW (wsOf ms)) ∧ Below wt.heap.size wt w' := by
  have hx : ∀ x ∈ wsOf ms, x.miss.length ≤ 60 ∧ x.id.size ≤ 281474976710656 ∧ ∀ s ∈ x.miss, s.size ≤ 281474976710656 := fun x hx => by obtain ⟨q, hq, rfl⟩ := List.mem_map.1 hx; exact ho q hq
  refine (wmissing_at (h.below hq (Nat.le_refl _)) hl (fun x h => by have := (hx x h).1; omega) (fun x h => by have := (hx x h).2.1; unfold maxLen; omega) (fun x h s hs => (hx x h).2.2 s hs)).mono ?_
  rintro e w' ⟨v', rfl, hr, b⟩
  obtain ⟨p, c, rfl, hs⟩ := own_texts hr
  exact ⟨p, c, rfl, hs, hq.trans (b.mono hq.size)⟩
theorem tl_miss2 {wt : World} {base : Nat} {v : Value} {ms : List Mo} (h : ModAt wt base v ms) (hl : ms.length ≤ 60) (ho : ∀ p ∈ ms, MoOk p) (wq : World) (hq : Below wt.heap.size wt wq) : Calls Try.prog 46 #[v] wq fun e w' => ∃ p c, e = .returned (.slice p (missW (wsOf ms)).length c) ∧ StrRow w' p (missW (wsOf ms)) ∧ Below wt.heap.size wt w' ∧ Below wq.heap.size wq w' := by
  refine (lmissing_any (h.below hq (Nat.le_refl _)) hl (fun p hp => (ho p hp).1)).mono ?_
  rintro e w' ⟨v', rfl, hr, b⟩
  obtain ⟨p, c, rfl, hs⟩ := own_texts hr
  exact ⟨p, c, rfl, hs, hq.trans (b.mono hq.size), b⟩
theorem tl_same {wt : World} {M : List ByteArray} (hM : M.length ≤ maxLen) (wq : World) (p : Option Addr) (c : Nat) (p' : Option Addr) (c' : Nat) (h1 : StrRow wq p M) (h2 : StrRow wq p' M) (hq : Below wt.heap.size wt wq) : Calls Try.prog 21 #[.slice p M.length c, .slice p' M.length c'] wq fun e w' => e = .returned (.bool true) ∧ Below wt.heap.size wt w' := by
  refine (rsame_any h1 h2 hM hM).mono ?_
  rintro e w' ⟨rfl, b⟩
  rw [decide_eq_true rfl]
  exact ⟨rfl, hq.trans (b.mono hq.size)⟩
set_option maxHeartbeats 40000000 in
set_option maxRecDepth 100000 in
theorem walk (pl : Int) (a : Option Addr) (cap : Nat) (l : List Wc) (hpl : (Lit.int .i64 pl).wf = true) (w : World) (hA : WcsAt w a l) :
    Calls Try.prog 10 #[.int .i64 pl, .slice a l.length cap] w fun e w' => e = .returned (.bool true) ∧ Below w.heap.size w w' := by
  have HG := Lib.hid (greatWc_any w a cap l hA)
  cases hgr : greatWc l with
  | true =>
    rw [hgr] at HG
    go_enter Try.func10, Try.ntmps10
    go_wp2_with (first | (go_at_call 34; refine HG.out.mono ?_; rintro e w1 ⟨rfl, rfl⟩) | (go_at_call 35; refine (awake13 _).mono ?_; rintro e w2 ⟨rfl, b2⟩))
    go_ret
    exact ⟨rfl, b2⟩
  | false =>
  rw [hgr] at HG
  obtain ⟨hl60, hm60⟩ := greatWc_no hgr
  have HM60 := Lib.hid hm60
  have HA := Lib.hid hA
  clear hA hgr hm60
  by_cases hneg : pl < 0 ∨ 300 < pl
  · have HN := Lib.hid (wnew_no pl hneg)
    rcases hneg with h | h
    · clear hpl
      go_enter Try.func10, Try.ntmps10
      go_wp2_with (first | (go_at_call 34; refine HG.out.mono ?_; rintro e w1 ⟨rfl, e9⟩; rw [e9]; clear e9 w1) | (go_at_call 35; refine (awake13 _).mono ?_; rintro e w2 ⟨rfl, b2⟩) | (go_at_call 36; refine (HN.out _).mono ?_; rintro e w3 ⟨rfl, e9⟩; rw [e9]; clear e9 w3))
      go_ret
      exact ⟨rfl, b2⟩
    · have h0 : ¬ pl < 0 := by omega
      clear hpl
      go_enter Try.func10, Try.ntmps10
      go_wp2_with (first | (go_at_call 34; refine HG.out.mono ?_; rintro e w1 ⟨rfl, e9⟩; rw [e9]; clear e9 w1) | (go_at_call 35; refine (awake13 _).mono ?_; rintro e w2 ⟨rfl, b2⟩) | (go_at_call 36; refine (HN.out _).mono ?_; rintro e w3 ⟨rfl, e9⟩; rw [e9]; clear e9 w3))
      go_ret
      exact ⟨rfl, b2⟩
  obtain ⟨places, rfl⟩ : ∃ n : Nat, pl = (n : Int) := ⟨pl.toNat, by omega⟩
  have hp300 : places ≤ 300 := by omega
  have hq0 : ¬ ((places : Int) < 0) := by omega
  have hq1 : ¬ ((300 : Int) < (places : Int)) := by omega
  have HNEW := Lib.hid (wnew_any places hp300)
  clear hpl hneg
  go_enter Try.func10, Try.ntmps10
  go_wp2_with (first | (go_at_call 34; refine HG.out.mono ?_; rintro e w1 ⟨rfl, e9⟩; rw [e9]; clear e9 w1) | (go_at_call 35; refine (awake13 _).mono ?_; rintro e w2 ⟨rfl, b2⟩; have B2 := Lib.hid b2; clear b2) | (go_at_call 36; refine (HNEW.out _).mono ?_; rintro e w3 ⟨rfl, h3, b3⟩; have H3 := Lib.hid h3; have B3 := Lib.hid (B2.out.trans (b3.mono B2.out.size)); clear h3 b3))
  have hB := B2.out.size
  obtain ⟨B, hBe⟩ : ∃ B, B = w2.heap.size := ⟨_, rfl⟩
  rw [← hBe] at H3 hB ⊢
  have HBB := Lib.hid (show Below w.heap.size w w3 from B3.out)
  clear hBe B2 B3
  go_loopw [6, 7] (fun v6 j wr => ∃ (k : Nat) (vW : Value) (ms : List Mo), k ≤ l.length ∧ j = .int .i64 k ∧ WaitAt wr B B places vW (wsOf ms) ∧ ModAt wr B v6 ms ∧ ms.length ≤ k ∧ ms.length ≤ places ∧ (∀ p ∈ ms, MoOk p) ∧ Below w.heap.size w wr) (fun _ j _ => l.length - (intOf j).toNat)
  case atStart => exact ⟨0, _, [], Nat.zero_le _, rfl, H3.out, ⟨World.ownsRow_nil _ _ _ _, fun p hp => by cases hp⟩, by simp, by simp, fun p hp => (by cases hp), HBB.out⟩
  case round =>
    obtain ⟨k, vW, ms, hk, rfl, hw, hmd, hmk, hmp, hok, hb⟩ := hrel
    obtain ⟨pm, cm, rfl, hcm1, hcm2, hpm⟩ := rowS_form hmd.row
    unfold maxLen at hcm2
    have HPM := Lib.hid hpm
    clear hpm
    have HW := Lib.hid hw
    have HMD := Lib.hid hmd
    have HOK := Lib.hid hok
    have HB := Lib.hid hb
    clear hw hmd hok H3 HBB
    by_cases hlt : k < l.length
    · obtain ⟨b, off, rfl, hbl, hcl⟩ := HA.out.at_ hlt
      have HCO := Lib.hid (HA.out.ok _ (List.getElem_mem hlt))
      have c0 := (hb.cell (p := ⟨b, off + k * 4 + 0, none⟩) hbl).trans (hcl 0 (by omega))
      have c1 := (hb.cell (p := ⟨b, off + k * 4 + 1, none⟩) hbl).trans (hcl 1 (by omega))
      have c2 := (hb.cell (p := ⟨b, off + k * 4 + 2, none⟩) hbl).trans (hcl 2 (by omega))
      have c3 := (hb.cell (p := ⟨b, off + k * 4 + 3, none⟩) hbl).trans (hcl 3 (by omega))
      simp only [Wc.cells, List.getElem?_cons_zero, List.getElem?_cons_succ, Nat.add_zero] at c0 c1 c2 c3
      have hml60 := HM60.out _ (List.getElem_mem hlt)
      clear hcl hb
      generalize l[k] = cc at *
      obtain ⟨kd, xid, xtx, xms, xat, xcp⟩ := cc
      simp only at c0 c1 c2 c3 hml60
      have i1 : (k : Int) < (l.length : Int) := by omega
      have i0' : (0 : Int) ≤ (k : Int) := by omega
      obtain ⟨X, hX⟩ : ∃ X, X = wr.heap.size := ⟨_, rfl⟩
      obtain ⟨wa, hwa⟩ : ∃ wa, wa = wr.alloc (.cells #[.int .i64 kd, .string xid, .string xtx, .slice xat xms.length xcp] 60) := ⟨_, rfl⟩
      have HXa := Lib.hid (show Blk wa X 60 [.int .i64 kd, .string xid, .string xtx, .slice xat xms.length xcp] by rw [hwa, hX]; exact Blk.new wr _ _)
      have HWa := Lib.hid (show WaitAt wa B B places vW (wsOf ms) by rw [hwa]; exact HW.out.below (n := wr.heap.size) ((Below.refl _ _).alloc (Nat.le_refl _) _) (Nat.le_refl _))
      have HMa := Lib.hid (show ModAt wa B (.slice pm ms.length cm) ms by rw [hwa]; exact HMD.out.below (n := wr.heap.size) ((Below.refl _ _).alloc (Nat.le_refl _) _) (Nat.le_refl _))
      have HBa := Lib.hid (show Below w.heap.size w wa by rw [hwa]; exact HB.out.alloc HB.out.size _)
      have HOCa := Lib.hid (HCO.out.below (HBa.out.mono (Nat.le_refl _)))
      have z0 := HXa.out.cell 0
      have z1 := HXa.out.cell 1
      have z2 := HXa.out.cell 2
      have z3 := HXa.out.cell 3
      simp only [List.getElem?_cons_zero, List.getElem?_cons_succ] at z0 z1 z2 z3
      have HWA := Lib.hid hwa
      have HXE := Lib.hid hX
      by_cases hk0 : kd = 0
      · subst hk0
        have hputF : ∀ E : Int, putE (wsOf ms) places xid xms = E ∧ E ≠ 0 → Calls Try.prog 37 #[.pointer (some ⟨B, 0, none⟩), .string xid, .string xtx, .slice xat xms.length xcp] (wr.alloc (.cells #[.int .i64 0, .string xid, .string xtx, .slice xat xms.length xcp] 60)) fun e w4 => e = .returned (.int .i64 E) ∧ ∃ v4, WaitAt w4 B B places v4 (wsOf ms) ∧ ModAt w4 B (.slice pm ms.length cm) ms ∧ Blk w4 X 60 [.int .i64 0, .string xid, .string xtx, .slice xat xms.length xcp] ∧ Below w.heap.size w w4 := by
          rintro E ⟨hE, hE0⟩
          rw [← HWA.out]
          have hwb := HW.out.blk.lt
          have hXs : wa.heap.size = X + 1 := by rw [HWA.out, hX]; simp
          refine (wput_any HWa.out hp300 (by rw [wsOf_length]; exact hmp) (id := xid) (text := xtx) (a := xat) (m := xms) (cap := xcp) (by have := HCO.out.id; simp only at this; omega) (by have := HCO.out.text; simp only at this; omega) HOCa.out.miss.row (by omega) (fun s hs => by have := HCO.out.miss.size s hs; omega) (by omega)).mono ?_
          rintro e w4 ⟨rfl, v4, ws4, q1, q2, q3, q4⟩
          rw [hE] at q2 ⊢
          have hws : ws4 = wsOf ms := by rcases q2 with ⟨_, h⟩ | ⟨h, _⟩; exact h; exact absurd h hE0
          rw [hws] at q1
          refine ⟨rfl, v4, q1, HMa.out.off HWa.out q3, (q3.block X (by omega) (fun hf => by have := (HW.out.lt hf).1; omega)).trans HXa.out, HBa.out.trans ((HWa.out.off_below q3 (by omega)).mono hB)⟩
        by_cases h0 : xms.length = 0
        · have hE : putE (wsOf ms) places xid xms = 1 ∧ (1 : Int) ≠ 0 := ⟨by unfold putE; rw [if_pos h0], by decide⟩
          obtain rfl : xms = [] := List.eq_nil_of_length_eq_zero h0
          clear h0 hX hwa
          as_aux_lemma =>
            have HFI := Lib.hid (show ∀ (wq : World), ModAt wq B (.slice pm ms.length cm) ms → Calls Try.prog 38 #[.slice pm ms.length cm, .string xid] wq fun e w' => e = .returned (.int .i64 (findI (wsOf ms) xid)) ∧ w' = wq from fun wq h => lfind_any h xid)
            have HPUT := Lib.hid (hputF _ hE)
            clear hE hputF
            go_wp2_with (first
              | (go_at_call 37; refine HPUT.out.mono ?_; rintro e w4 ⟨rfl, v4, h4, m4, x4, b4⟩; have HWt := Lib.hid h4; have HMt := Lib.hid m4; have HXt := Lib.hid x4; have HBt := Lib.hid b4; have y1 := x4.cell 1; have y2 := x4.cell 2; have y3 := x4.cell 3; simp only [List.getElem?_cons_zero, List.getElem?_cons_succ] at y1 y2 y3; clear h4 m4 x4 b4; rw [← HXE.out])
              | (go_at_call 38; refine (HFI.out _ HMt.out).mono ?_; rintro e w5 ⟨rfl, e9⟩; rw [e9]; clear e9 w5; rw [HFI.out]))
            have HOKt := Lib.hid HOK.out
            have HPLt := Lib.hid hmp
            have hml : ms.length ≤ 60 := by omega
            have hmk1 : ms.length ≤ k + 1 := by omega
            clear y1 y2 y3 HFI
            have HLEN := Lib.hid (fun wq hq => tl_len HWt.out wq hq)
            have HHAS := Lib.hid (fun wq hq => tl_has HWt.out xid wq hq)
            have HFND := Lib.hid (fun wq hq => tl_find HMt.out xid wq hq)
            have HMIS := Lib.hid (fun wq hq => tl_miss HWt.out (by rw [wsOf_length]; omega) HOKt.out wq hq)
            have HMS2 := Lib.hid (fun wq hq => tl_miss2 HMt.out hml HOKt.out wq hq)
            have HSAM := Lib.hid (fun wq p c p' c' h1 h2 hq => tl_same (wt := w4) (M := missW (wsOf ms)) (missW_le hml HOKt.out) wq p c p' c' h1 h2 hq)
            have HFB := Lib.hid (findI_neg (ws := wsOf ms) (s := xid))
            have hwl := wsOf_length ms
            rw [hwl] at HLEN
            have hfb := HFB.out
            have hXl := HXt.out.lt
            have k1 := HXt.out.cell 1
            simp only [List.getElem?_cons_zero, List.getElem?_cons_succ] at k1
            have bdr : Below w4.heap.size w4 w4.drew := (Below.refl _ _).drew
            generalize findI (wsOf ms) xid = ff at *
            generalize (findW (wsOf ms) xid).isSome = fb at *
            generalize missW (wsOf ms) = M at *
            clear hwl
            go_region_held3 (fun w' => w'.cell? ⟨X, 1, none⟩ = some (.string xid))
              (first | with_reducible exact (b15.cell (p := ⟨X, 1, none⟩) hXl).trans k1 | with_reducible exact (b14.cell (p := ⟨X, 1, none⟩) hXl).trans k1 | with_reducible exact (b13.cell (p := ⟨X, 1, none⟩) hXl).trans k1 | with_reducible exact (b12.cell (p := ⟨X, 1, none⟩) hXl).trans k1 | with_reducible exact (b11.cell (p := ⟨X, 1, none⟩) hXl).trans k1 | with_reducible exact (b10.cell (p := ⟨X, 1, none⟩) hXl).trans k1 | with_reducible exact (bdr.cell (p := ⟨X, 1, none⟩) hXl).trans k1 | with_reducible exact k1 | with_reducible exact kk1 | fail)
              (first
                | (go_at_call 43; refine (HLEN.out _ (by first | exact bdr)).mono ?_; rintro e w10 ⟨rfl, b10⟩)
                | (go_at_call 44; refine (HHAS.out _ (by first | exact b10)).mono ?_; rintro e w11 ⟨rfl, b11⟩)
                | (go_at_call 38; refine (HFND.out _ (by first | exact b11)).mono ?_; rintro e w12 ⟨rfl, b12⟩)
                | (go_at_call 45; refine (HMIS.out _ (by first | exact b12)).mono ?_; rintro e w13 ⟨p13, c13, rfl, s13, b13⟩)
                | (go_at_call 46; refine (HMS2.out _ (by first | exact b13)).mono ?_; rintro e w14 ⟨p14, c14, rfl, s14, b14, b14'⟩)
                | (go_at_call 21; refine (HSAM.out _ p13 c13 p14 c14 (s13.below b14') s14 b14).mono ?_; rintro e w15 ⟨rfl, b15⟩))
            have HW15 := Lib.hid (HWt.out.below b15 (Nat.le_refl _))
            have HM15 := Lib.hid (HMt.out.below b15 (Nat.le_refl _))
            have HB15 := Lib.hid (HBt.out.trans (b15.mono HBt.out.size))
            clear b15 k1 bdr
            go_wp2
            go_roundw
            case rel => exact ⟨k + 1, _, ms, by omega, by go_num, HW15.out, HM15.out, by omega, HPLt.out, HOKt.out, HB15.out⟩
            case measure => simp [intOf]; omega
        have hn0 : ¬ (xms.length : Int) = 0 := by omega
        by_cases h1 : (findW (wsOf ms) xid).isSome = true
        · have hE : putE (wsOf ms) places xid xms = 11 ∧ (11 : Int) ≠ 0 := ⟨by unfold putE; rw [if_neg h0, if_pos h1], by decide⟩
          obtain ⟨fi, hfi⟩ := Option.isSome_iff_exists.1 h1
          have HFE := Lib.hid (show findI (wsOf ms) xid = (fi : Int) by unfold findI; rw [hfi])
          clear h0 h1 hfi hX hwa
          as_aux_lemma =>
            have HFI := Lib.hid (show ∀ (wq : World), ModAt wq B (.slice pm ms.length cm) ms → Calls Try.prog 38 #[.slice pm ms.length cm, .string xid] wq fun e w' => e = .returned (.int .i64 (findI (wsOf ms) xid)) ∧ w' = wq from fun wq h => lfind_any h xid)
            have HPUT := Lib.hid (hputF _ hE)
            clear hE hputF
            go_wp2_with (first
              | (go_at_call 37; refine HPUT.out.mono ?_; rintro e w4 ⟨rfl, v4, h4, m4, x4, b4⟩; have HWt := Lib.hid h4; have HMt := Lib.hid m4; have HXt := Lib.hid x4; have HBt := Lib.hid b4; have y1 := x4.cell 1; have y2 := x4.cell 2; have y3 := x4.cell 3; simp only [List.getElem?_cons_zero, List.getElem?_cons_succ] at y1 y2 y3; clear h4 m4 x4 b4; rw [← HXE.out])
              | (go_at_call 38; refine (HFI.out _ HMt.out).mono ?_; rintro e w5 ⟨rfl, e9⟩; rw [e9]; clear e9 w5; rw [HFE.out]))
            have HOKt := Lib.hid HOK.out
            have HPLt := Lib.hid hmp
            have hml : ms.length ≤ 60 := by omega
            have hmk1 : ms.length ≤ k + 1 := by omega
            clear y1 y2 y3 HFI
            have HLEN := Lib.hid (fun wq hq => tl_len HWt.out wq hq)
            have HHAS := Lib.hid (fun wq hq => tl_has HWt.out xid wq hq)
            have HFND := Lib.hid (fun wq hq => tl_find HMt.out xid wq hq)
            have HMIS := Lib.hid (fun wq hq => tl_miss HWt.out (by rw [wsOf_length]; omega) HOKt.out wq hq)
            have HMS2 := Lib.hid (fun wq hq => tl_miss2 HMt.out hml HOKt.out wq hq)
            have HSAM := Lib.hid (fun wq p c p' c' h1 h2 hq => tl_same (wt := w4) (M := missW (wsOf ms)) (missW_le hml HOKt.out) wq p c p' c' h1 h2 hq)
            have HFB := Lib.hid (findI_neg (ws := wsOf ms) (s := xid))
            have hwl := wsOf_length ms
            rw [hwl] at HLEN
            have hfb := HFB.out
            have hXl := HXt.out.lt
            have k1 := HXt.out.cell 1
            simp only [List.getElem?_cons_zero, List.getElem?_cons_succ] at k1
            have bdr : Below w4.heap.size w4 w4.drew := (Below.refl _ _).drew
            generalize findI (wsOf ms) xid = ff at *
            generalize (findW (wsOf ms) xid).isSome = fb at *
            generalize missW (wsOf ms) = M at *
            clear hwl
            go_region_held3 (fun w' => w'.cell? ⟨X, 1, none⟩ = some (.string xid))
              (first | with_reducible exact (b15.cell (p := ⟨X, 1, none⟩) hXl).trans k1 | with_reducible exact (b14.cell (p := ⟨X, 1, none⟩) hXl).trans k1 | with_reducible exact (b13.cell (p := ⟨X, 1, none⟩) hXl).trans k1 | with_reducible exact (b12.cell (p := ⟨X, 1, none⟩) hXl).trans k1 | with_reducible exact (b11.cell (p := ⟨X, 1, none⟩) hXl).trans k1 | with_reducible exact (b10.cell (p := ⟨X, 1, none⟩) hXl).trans k1 | with_reducible exact (bdr.cell (p := ⟨X, 1, none⟩) hXl).trans k1 | with_reducible exact k1 | with_reducible exact kk1 | fail)
              (first
                | (go_at_call 43; refine (HLEN.out _ (by first | exact bdr)).mono ?_; rintro e w10 ⟨rfl, b10⟩)
                | (go_at_call 44; refine (HHAS.out _ (by first | exact b10)).mono ?_; rintro e w11 ⟨rfl, b11⟩)
                | (go_at_call 38; refine (HFND.out _ (by first | exact b11)).mono ?_; rintro e w12 ⟨rfl, b12⟩)
                | (go_at_call 45; refine (HMIS.out _ (by first | exact b12)).mono ?_; rintro e w13 ⟨p13, c13, rfl, s13, b13⟩)
                | (go_at_call 46; refine (HMS2.out _ (by first | exact b13)).mono ?_; rintro e w14 ⟨p14, c14, rfl, s14, b14, b14'⟩)
                | (go_at_call 21; refine (HSAM.out _ p13 c13 p14 c14 (s13.below b14') s14 b14).mono ?_; rintro e w15 ⟨rfl, b15⟩))
            have HW15 := Lib.hid (HWt.out.below b15 (Nat.le_refl _))
            have HM15 := Lib.hid (HMt.out.below b15 (Nat.le_refl _))
            have HB15 := Lib.hid (HBt.out.trans (b15.mono HBt.out.size))
            clear b15 k1 bdr
            go_wp2
            go_roundw
            case rel => exact ⟨k + 1, _, ms, by omega, by go_num, HW15.out, HM15.out, by omega, HPLt.out, HOKt.out, HB15.out⟩
            case measure => simp [intOf]; omega
        have h1' : findW (wsOf ms) xid = none := by
          cases hq : findW (wsOf ms) xid with
          | none => rfl
          | some i => rw [hq] at h1; exact absurd rfl h1
        have HFE := Lib.hid (show findI (wsOf ms) xid = -1 by unfold findI; rw [h1'])
        by_cases h2 : places ≤ ms.length
        · have hE : putE (wsOf ms) places xid xms = 8 ∧ (8 : Int) ≠ 0 := ⟨by unfold putE; rw [if_neg h0, if_neg h1, if_pos (by rw [wsOf_length]; exact h2)], by decide⟩
          have h2i : (places : Int) ≤ (ms.length : Int) := by omega
          clear h0 h1 h1' hX hwa
          as_aux_lemma =>
            have HFI := Lib.hid (show ∀ (wq : World), ModAt wq B (.slice pm ms.length cm) ms → Calls Try.prog 38 #[.slice pm ms.length cm, .string xid] wq fun e w' => e = .returned (.int .i64 (findI (wsOf ms) xid)) ∧ w' = wq from fun wq h => lfind_any h xid)
            have HPUT := Lib.hid (hputF _ hE)
            clear hE hputF
            go_wp2_with (first
              | (go_at_call 37; refine HPUT.out.mono ?_; rintro e w4 ⟨rfl, v4, h4, m4, x4, b4⟩; have HWt := Lib.hid h4; have HMt := Lib.hid m4; have HXt := Lib.hid x4; have HBt := Lib.hid b4; have y1 := x4.cell 1; have y2 := x4.cell 2; have y3 := x4.cell 3; simp only [List.getElem?_cons_zero, List.getElem?_cons_succ] at y1 y2 y3; clear h4 m4 x4 b4; rw [← HXE.out])
              | (go_at_call 38; refine (HFI.out _ HMt.out).mono ?_; rintro e w5 ⟨rfl, e9⟩; rw [e9]; clear e9 w5; rw [HFE.out]))
            have HOKt := Lib.hid HOK.out
            have HPLt := Lib.hid hmp
            have hml : ms.length ≤ 60 := by omega
            have hmk1 : ms.length ≤ k + 1 := by omega
            clear y1 y2 y3 HFI
            have HLEN := Lib.hid (fun wq hq => tl_len HWt.out wq hq)
            have HHAS := Lib.hid (fun wq hq => tl_has HWt.out xid wq hq)
            have HFND := Lib.hid (fun wq hq => tl_find HMt.out xid wq hq)
            have HMIS := Lib.hid (fun wq hq => tl_miss HWt.out (by rw [wsOf_length]; omega) HOKt.out wq hq)
            have HMS2 := Lib.hid (fun wq hq => tl_miss2 HMt.out hml HOKt.out wq hq)
            have HSAM := Lib.hid (fun wq p c p' c' h1 h2 hq => tl_same (wt := w4) (M := missW (wsOf ms)) (missW_le hml HOKt.out) wq p c p' c' h1 h2 hq)
            have HFB := Lib.hid (findI_neg (ws := wsOf ms) (s := xid))
            have hwl := wsOf_length ms
            rw [hwl] at HLEN
            have hfb := HFB.out
            have hXl := HXt.out.lt
            have k1 := HXt.out.cell 1
            simp only [List.getElem?_cons_zero, List.getElem?_cons_succ] at k1
            have bdr : Below w4.heap.size w4 w4.drew := (Below.refl _ _).drew
            generalize findI (wsOf ms) xid = ff at *
            generalize (findW (wsOf ms) xid).isSome = fb at *
            generalize missW (wsOf ms) = M at *
            clear hwl
            go_region_held3 (fun w' => w'.cell? ⟨X, 1, none⟩ = some (.string xid))
              (first | with_reducible exact (b15.cell (p := ⟨X, 1, none⟩) hXl).trans k1 | with_reducible exact (b14.cell (p := ⟨X, 1, none⟩) hXl).trans k1 | with_reducible exact (b13.cell (p := ⟨X, 1, none⟩) hXl).trans k1 | with_reducible exact (b12.cell (p := ⟨X, 1, none⟩) hXl).trans k1 | with_reducible exact (b11.cell (p := ⟨X, 1, none⟩) hXl).trans k1 | with_reducible exact (b10.cell (p := ⟨X, 1, none⟩) hXl).trans k1 | with_reducible exact (bdr.cell (p := ⟨X, 1, none⟩) hXl).trans k1 | with_reducible exact k1 | with_reducible exact kk1 | fail)
              (first
                | (go_at_call 43; refine (HLEN.out _ (by first | exact bdr)).mono ?_; rintro e w10 ⟨rfl, b10⟩)
                | (go_at_call 44; refine (HHAS.out _ (by first | exact b10)).mono ?_; rintro e w11 ⟨rfl, b11⟩)
                | (go_at_call 38; refine (HFND.out _ (by first | exact b11)).mono ?_; rintro e w12 ⟨rfl, b12⟩)
                | (go_at_call 45; refine (HMIS.out _ (by first | exact b12)).mono ?_; rintro e w13 ⟨p13, c13, rfl, s13, b13⟩)
                | (go_at_call 46; refine (HMS2.out _ (by first | exact b13)).mono ?_; rintro e w14 ⟨p14, c14, rfl, s14, b14, b14'⟩)
                | (go_at_call 21; refine (HSAM.out _ p13 c13 p14 c14 (s13.below b14') s14 b14).mono ?_; rintro e w15 ⟨rfl, b15⟩))
            have HW15 := Lib.hid (HWt.out.below b15 (Nat.le_refl _))
            have HM15 := Lib.hid (HMt.out.below b15 (Nat.le_refl _))
            have HB15 := Lib.hid (HBt.out.trans (b15.mono HBt.out.size))
            clear b15 k1 bdr
            go_wp2
            go_roundw
            case rel => exact ⟨k + 1, _, ms, by omega, by go_num, HW15.out, HM15.out, by omega, HPLt.out, HOKt.out, HB15.out⟩
            case measure => simp [intOf]; omega
        as_aux_lemma =>
          have h2i : ¬ ((places : Int) ≤ (ms.length : Int)) := by omega
          have hE : putE (wsOf ms) places xid xms = 0 := by unfold putE; rw [if_neg h0, if_neg h1, if_neg (by rw [wsOf_length]; exact h2)]
          have HPUT := Lib.hid (show Calls Try.prog 37 #[.pointer (some ⟨B, 0, none⟩), .string xid, .string xtx, .slice xat xms.length xcp] (wr.alloc (.cells #[.int .i64 0, .string xid, .string xtx, .slice xat xms.length xcp] 60)) fun e w4 => e = .returned (.int .i64 0) ∧ ∃ v4 mb, WaitAt w4 B B places v4 (wsOf ms ++ [⟨xid, xtx, mb, riseL xms⟩]) ∧ ModAt w4 B (.slice pm ms.length cm) ms ∧ Blk w4 X 60 [.int .i64 0, .string xid, .string xtx, .slice xat xms.length xcp] ∧ Below w.heap.size w w4 by
            rw [← HWA.out]
            have hwb := HW.out.blk.lt
            have hXs : wa.heap.size = X + 1 := by rw [HWA.out, hX]; simp
            refine (wput_any HWa.out hp300 (by rw [wsOf_length]; exact hmp) (id := xid) (text := xtx) (a := xat) (m := xms) (cap := xcp) (by have := HCO.out.id; simp only at this; omega) (by have := HCO.out.text; simp only at this; omega) HOCa.out.miss.row (by omega) (fun s hs => by have := HCO.out.miss.size s hs; omega) (by omega)).mono ?_
            rintro e w4 ⟨rfl, v4, ws4, q1, q2, q3, q4⟩
            rw [hE] at q2 ⊢
            obtain ⟨mb, hws⟩ : ∃ mb, ws4 = wsOf ms ++ [⟨xid, xtx, mb, dedupL xms⟩] := by rcases q2 with ⟨h, _⟩ | ⟨_, _, h⟩; exact absurd rfl h; exact h
            rw [hws] at q1
            exact ⟨rfl, v4, mb, q1.swap (fun s => (mem_dedup xms s).trans (mem_rise xms s).symm) (rise_rising xms).nodup, HMa.out.off HWa.out q3, (q3.block X (by omega) (fun hf => by have := (HW.out.lt hf).1; omega)).trans HXa.out, HBa.out.trans ((HWa.out.off_below q3 (by omega)).mono hB)⟩)
          have HFI := Lib.hid (show ∀ (wq : World), ModAt wq B (.slice pm ms.length cm) ms → Calls Try.prog 38 #[.slice pm ms.length cm, .string xid] wq fun e w' => e = .returned (.int .i64 (findI (wsOf ms) xid)) ∧ w' = wq from fun wq h => lfind_any h xid)
          have HSR := Lib.hid (show ∀ wx, Below w.heap.size w wx → Calls Try.prog 39 #[.slice xat xms.length xcp] wx fun e w' => ∃ p5 c5, e = .returned (.slice p5 (riseL xms).length c5) ∧ w'.ownsRow wx.heap.size 9 1 (.slice p5 (riseL xms).length c5) (riseL xms).length ((riseL xms).map Value.string) ∧ Below wx.heap.size wx w' from fun wx hb => by
            refine (rsorted_any (cap := xcp) (HCO.out.miss.row.below (hb.mono (Nat.le_refl _))) (by show xms.length ≤ 1000000; omega)).mono ?_
            rintro e w' ⟨v, rfl, hr, hb⟩
            obtain ⟨p5, c5, rfl, _⟩ := own_texts hr
            exact ⟨p5, c5, rfl, hr, hb⟩)
          obtain ⟨i0, hi0, hz0, hz1, hz2⟩ := info_parts (show (Try.prog.info? 65).map (fun i => (i.zero, i.size, i.bytes)) = some (some (.agg #[.string ⟨#[]⟩, .string ⟨#[]⟩, .slice none 0 0]), 3, 56) by kernel_rfl)
          have I0 := Lib.hid hi0
          have Z0 := Lib.hid hz0
          have Z1 := Lib.hid hz1
          have Z2 := Lib.hid hz2
          have H1 := Lib.hid (show ms.length + 1 ≤ maxLen by unfold maxLen; omega)
          have H2 := Lib.hid (show (ms.length + 1) * 56 ≤ 140737488355328 by omega)
          have HRL := Lib.hid (show (riseL xms).length ≤ 60 from Nat.le_trans (rise_le xms) hml60)
          have HIDS := Lib.hid (show xid.size ≤ 281474976710656 ∧ ∀ s ∈ riseL xms, s.size ≤ 281474976710656 from ⟨by have := HCO.out.id; simp only at this; omega, fun s hs => by have := HCO.out.miss.size s ((mem_rise xms s).1 hs); omega⟩)
          clear h1 h1' hX hwa hi0 hz0 hz1 hz2 hE hputF
          go_wp2_with (first
            | (go_at_call 37; refine HPUT.out.mono ?_; rintro e w4 ⟨rfl, v4, mb, h4, m4, x4, b4⟩; have HW4 := Lib.hid h4; have HM4 := Lib.hid m4; have HX4 := Lib.hid x4; have HB4 := Lib.hid b4; have y1 := x4.cell 1; have y2 := x4.cell 2; have y3 := x4.cell 3; simp only [List.getElem?_cons_zero, List.getElem?_cons_succ] at y1 y2 y3; clear h4 m4 x4 b4; rw [← HXE.out])
            | (go_at_call 38; refine (HFI.out _ HM4.out).mono ?_; rintro e w5 ⟨rfl, e9⟩; rw [e9]; clear e9 w5; rw [HFE.out]))
          have hXl4 := HX4.out.lt
          have HD4 := Lib.hid HB4.out.drew
          have z1' : w4.drew.cell? ⟨X, 1, none⟩ = some (.string xid) := y1
          have z2' : w4.drew.cell? ⟨X, 2, none⟩ = some (.string xtx) := y2
          have z3' : w4.drew.cell? ⟨X, 3, none⟩ = some (.slice xat xms.length xcp) := y3
          go_region_held3 (fun w' => w'.cell? ⟨X, 1, none⟩ = some (.string xid) ∧ w'.cell? ⟨X, 2, none⟩ = some (.string xtx) ∧ w'.cell? ⟨X, 3, none⟩ = some (.slice xat xms.length xcp))
            (first | with_reducible exact ⟨a1 _, a2 _, a3 _⟩ | with_reducible exact a1 _ | with_reducible exact a2 _ | with_reducible exact a3 _ | with_reducible exact ⟨t1, t2, t3⟩ | with_reducible exact t1 | with_reducible exact t2 | with_reducible exact t3 | with_reducible exact ⟨u1, u2, u3⟩ | with_reducible exact u1 | with_reducible exact u2 | with_reducible exact u3 | with_reducible exact ⟨z1', z2', z3'⟩ | with_reducible exact z1' | with_reducible exact z2' | with_reducible exact z3' | with_reducible exact y1 | with_reducible exact y2 | with_reducible exact y3 | with_reducible exact kk1 | with_reducible exact kk2 | with_reducible exact kk3 | fail)
            (first
            | (refine step_append_lies _ (by rfl) _ _ _ (by rfl) B 65 i0 (.agg #[.string ⟨#[]⟩, .string ⟨#[]⟩, .slice none 0 0]) 3 56 Try.underlying58 I0.out Z0.out Z1.out Z2.out rfl (by omega) _ ms.length _ (by rfl) (H5.out _ _ ⟨by rfl, by rfl, by rfl, by rfl⟩) ⟨w5.heap.size, 0, none⟩ 1 1 [.string xid, .string xtx, .slice p5 (riseL xms).length c5] (by rfl) (by rfl) (H6.out _ ⟨by rfl, by rfl, by rfl, by rfl⟩) HON.out (by omega) H1.out H2.out (H7.out _ _ ⟨by rfl, by rfl, by rfl, by rfl⟩) (w5.heap.size + 1) (by simp) ?_; intro g8 cap8 w8 hown8 hg8 hor8 hlt8; have O8 := Lib.hid hown8; have G8 := Lib.hid (Like.grown (o := .cells #[.string xid, .string xtx, .slice p5 (riseL xms).length c5] 65) ⟨by rfl, by rfl, by rfl, by rfl⟩ hg8); have b8 := HXN.out w8 G8.out; have t1 := b8.cell 1; have t2 := b8.cell 2; have t3 := b8.cell 3; simp only [List.getElem?_cons_zero, List.getElem?_cons_succ] at t1 t2 t3; clear hown8 hg8 hor8)
            | (go_at_call 39; refine (HSR.out _ (by exact HD4.out)).mono ?_; rintro e w5 ⟨p5, c5, rfl, hr5, hb5'⟩
               have hb5 : Below w4.heap.size w4 w5 := ((Below.refl w4.heap.size w4).drew).trans hb5'
               clear hb5'
               have u1 := (hb5.cell (p := ⟨X, 1, none⟩) hXl4).trans y1
               have u2 := (hb5.cell (p := ⟨X, 2, none⟩) hXl4).trans y2
               have u3 := (hb5.cell (p := ⟨X, 3, none⟩) hXl4).trans y3
               have a1 : ∀ o, (w5.alloc o).cell? ⟨X, 1, none⟩ = some (.string xid) := fun o => Lib.cell?_alloc_some _ u1
               have a2 : ∀ o, (w5.alloc o).cell? ⟨X, 2, none⟩ = some (.string xtx) := fun o => Lib.cell?_alloc_some _ u2
               have a3 : ∀ o, (w5.alloc o).cell? ⟨X, 3, none⟩ = some (.slice xat xms.length xcp) := fun o => Lib.cell?_alloc_some _ u3
               have HM5 := Lib.hid (HM4.out.below hb5 (Nat.le_refl _))
               have H5 := Lib.hid (show ∀ o wx, Like w5 o wx → wx.ownsRow B 65 3 (.slice pm ms.length cm) ms.length (cellsM ms) from fun o wx hl => own_kept HM5.out.row (fun g hg => hl.old (own_lt HM5.out.row hg).1))
               have H6 := Lib.hid (show ∀ wx, Like w5 (.cells #[.string xid, .string xtx, .slice p5 (riseL xms).length c5] 65) wx → ∀ j u, [Value.string xid, .string xtx, .slice p5 (riseL xms).length c5][j]? = some u → wx.cell? ((⟨w5.heap.size, 0, none⟩ : Addr).add j) = some u from fun wx hl => World.news_of_block (cs := #[.string xid, .string xtx, .slice p5 (riseL xms).length c5]) hl.new)
               have HON := Lib.hid (show ∀ u ∈ [Value.string xid, .string xtx, .slice p5 (riseL xms).length c5], u.oneCell' = true from fun u hu => by simp only [List.mem_cons, List.not_mem_nil, or_false] at hu; rcases hu with rfl | rfl | rfl <;> rfl)
               have H7 := Lib.hid (show ∀ o wx, Like w5 o wx → B ≤ wx.heap.size from fun o wx hl => by have h1 := hl.size; have h2 := HW4.out.blk.lt; have h3 := hb5.size; omega)
               have HX5 := Lib.hid (HX4.out.below hb5 hXl4)
               have HXN := Lib.hid (show ∀ w8, w5.grownBy w8 (Value.ownBlock (.slice pm ms.length cm)) → Blk w8 X 60 [.int .i64 0, .string xid, .string xtx, .slice xat xms.length xcp] from fun w8 hg => HX5.out.grown hg (fun e => by
                 obtain ⟨_, _, cur, hc⟩ := own_lt HM5.out.row e.symm
                 have h2 := HX5.out
                 unfold Blk at h2
                 rw [hc] at h2
                 injection h2 with h2
                 injection h2 with _ h3
                 exact absurd h3 (by decide)))
               have HR5 := Lib.hid hr5
               have HB5 := Lib.hid hb5
               clear hr5 hb5))
          obtain ⟨ms', hms'⟩ : ∃ ms', ms' = ms ++ [⟨⟨xid, xtx, mb, riseL xms⟩, .slice p5 (riseL xms).length c5⟩] := ⟨_, rfl⟩
          have hl' : ms.length + 1 = ms'.length := by rw [hms']; simp
          have hold : ∀ g, g < w5.heap.size → Value.ownBlock (.slice pm ms.length cm) ≠ some g → w8.heap[g]? = w5.heap[g]? := fun g hg hne => G8.out.block g hg (fun e => hne e.symm)
          have HWt := Lib.hid (show WaitAt w8 B B places v4 (wsOf ms') by
            have e : wsOf ms' = wsOf ms ++ [⟨xid, xtx, mb, riseL xms⟩] := by rw [hms']; unfold wsOf; rw [List.map_append]; rfl
            rw [e]
            exact (HW4.out.below HB5.out (Nat.le_refl _)).beside HM5.out.row hold)
          have HMt := Lib.hid (show ModAt w8 B (.slice (some ⟨g8, 0, none⟩) ms'.length cap8) ms' by
            have hbb : B ≤ w4.heap.size := Nat.le_of_lt HW4.out.blk.lt
            have := HM5.out.more (p := ⟨⟨xid, xtx, mb, riseL xms⟩, .slice p5 (riseL xms).length c5⟩) (rowS_weak HR5.out hbb) hold (v8 := .slice (some ⟨g8, 0, none⟩) (ms.length + 1) cap8) O8.out
            rw [← hms'] at this
            rw [← hl']; exact this)
          have HOKt := Lib.hid (show ∀ p ∈ ms', MoOk p by
            rw [hms']
            intro p hp
            rcases List.mem_append.1 hp with h | h
            · exact HOK.out p h
            · rw [List.mem_singleton.1 h]; exact ⟨HRL.out, HIDS.out.1, HIDS.out.2⟩)
          have HXt := Lib.hid (HXN.out w8 G8.out)
          have HBt := Lib.hid (show Below w.heap.size w w8 from (HB4.out.trans (HB5.out.mono HB4.out.size)).grown G8.out (by have := HB4.out.size; have := HB5.out.size; omega) (fun j hj => by have := (own_lt HM5.out.row hj).2.1; omega))
          have HPLt := Lib.hid (show ms'.length ≤ places by omega)
          have hml : ms'.length ≤ 60 := by omega
          have hmk1 : ms'.length ≤ k + 1 := by omega
          rw [hl']
          clear a1 a2 a3 t1 t2 t3 u1 u2 u3 y1 y2 y3 z1' z2' z3' hold hl' hms' b8 HFI HSR HW4 HM4 HX4 HB4 HD4 HPUT H5 H6 H7 HON HXN HM5 HR5 HB5 HX5 O8 G8 HIDS HRL
          go_wp2
          have HLEN := Lib.hid (fun wq hq => tl_len HWt.out wq hq)
          have HHAS := Lib.hid (fun wq hq => tl_has HWt.out xid wq hq)
          have HFND := Lib.hid (fun wq hq => tl_find HMt.out xid wq hq)
          have HMIS := Lib.hid (fun wq hq => tl_miss HWt.out (by rw [wsOf_length]; omega) HOKt.out wq hq)
          have HMS2 := Lib.hid (fun wq hq => tl_miss2 HMt.out hml HOKt.out wq hq)
          have HSAM := Lib.hid (fun wq p c p' c' h1 h2 hq => tl_same (wt := w8) (M := missW (wsOf ms')) (missW_le hml HOKt.out) wq p c p' c' h1 h2 hq)
          have HFB := Lib.hid (findI_neg (ws := wsOf ms') (s := xid))
          have hwl := wsOf_length ms'
          rw [hwl] at HLEN
          have hfb := HFB.out
          have hXl := HXt.out.lt
          have k1 := HXt.out.cell 1
          simp only [List.getElem?_cons_zero, List.getElem?_cons_succ] at k1
          have bdr : Below w8.heap.size w8 w8.drew := (Below.refl _ _).drew
          generalize findI (wsOf ms') xid = ff at *
          generalize (findW (wsOf ms') xid).isSome = fb at *
          generalize missW (wsOf ms') = M at *
          clear hwl
          go_region_held3 (fun w' => w'.cell? ⟨X, 1, none⟩ = some (.string xid))
            (first | with_reducible exact (b15.cell (p := ⟨X, 1, none⟩) hXl).trans k1 | with_reducible exact (b14.cell (p := ⟨X, 1, none⟩) hXl).trans k1 | with_reducible exact (b13.cell (p := ⟨X, 1, none⟩) hXl).trans k1 | with_reducible exact (b12.cell (p := ⟨X, 1, none⟩) hXl).trans k1 | with_reducible exact (b11.cell (p := ⟨X, 1, none⟩) hXl).trans k1 | with_reducible exact (b10.cell (p := ⟨X, 1, none⟩) hXl).trans k1 | with_reducible exact (bdr.cell (p := ⟨X, 1, none⟩) hXl).trans k1 | with_reducible exact k1 | with_reducible exact kk1 | fail)
            (first
              | (go_at_call 43; refine (HLEN.out _ (by first | exact bdr)).mono ?_; rintro e w10 ⟨rfl, b10⟩)
              | (go_at_call 44; refine (HHAS.out _ (by first | exact b10)).mono ?_; rintro e w11 ⟨rfl, b11⟩)
              | (go_at_call 38; refine (HFND.out _ (by first | exact b11)).mono ?_; rintro e w12 ⟨rfl, b12⟩)
              | (go_at_call 45; refine (HMIS.out _ (by first | exact b12)).mono ?_; rintro e w13 ⟨p13, c13, rfl, s13, b13⟩)
              | (go_at_call 46; refine (HMS2.out _ (by first | exact b13)).mono ?_; rintro e w14 ⟨p14, c14, rfl, s14, b14, b14'⟩)
              | (go_at_call 21; refine (HSAM.out _ p13 c13 p14 c14 (s13.below b14') s14 b14).mono ?_; rintro e w15 ⟨rfl, b15⟩))
          have HW15 := Lib.hid (HWt.out.below b15 (Nat.le_refl _))
          have HM15 := Lib.hid (HMt.out.below b15 (Nat.le_refl _))
          have HB15 := Lib.hid (HBt.out.trans (b15.mono HBt.out.size))
          clear b15 k1 bdr
          go_wp2
          go_roundw
          case rel => exact ⟨k + 1, _, ms', by omega, by go_num, HW15.out, HM15.out, by omega, HPLt.out, HOKt.out, HB15.out⟩
          case measure => simp [intOf]; omega
      have hkn0 : (kd == 0) = false := beq_eq_false_iff_ne.2 hk0
      by_cases hk1 : kd = 1
      · subst hk1
        as_aux_lemma =>
          have HCM := Lib.hid (show Calls Try.prog 40 #[.pointer (some ⟨B, 0, none⟩), .string xid] (wr.alloc (.cells #[.int .i64 1, .string xid, .string xtx, .slice xat xms.length xcp] 60)) fun e w4 => ∃ p5 c5 v4, e = .returned (.slice p5 (leftW xid (wsOf ms)).length c5) ∧ w4.ownsRow wa.heap.size 70 2 (.slice p5 (leftW xid (wsOf ms)).length c5) (leftW xid (wsOf ms)).length (cellsG (leftW xid (wsOf ms))) ∧ WaitAt w4 B B places v4 (stayW xid (wsOf ms)) ∧ ModAt w4 B (.slice pm ms.length cm) ms ∧ Blk w4 X 60 [.int .i64 1, .string xid, .string xtx, .slice xat xms.length xcp] ∧ Below w.heap.size w w4 by
            rw [← HWA.out]
            have hwb := HW.out.blk.lt
            have hXs : wa.heap.size = X + 1 := by rw [HWA.out, hX]; simp
            refine (wcome_any HWa.out (by rw [wsOf_length]; omega) (id := xid) (by have := HCO.out.id; simp only at this; unfold maxLen; omega)).mono ?_
            rintro e w4 ⟨v5, v4, rfl, hr, q1, q3, _⟩
            obtain ⟨p5, c5, rfl, _⟩ := rowS_form hr
            have q3' := q3.mono (T := WFoot B vW (wsOf ms)) (fun g _ hg => by rcases hg with hg | ⟨x, hx, hg⟩; exact .inl hg; exact .inr (.inr ⟨x, hx, hg⟩))
            exact ⟨p5, c5, v4, rfl, hr, q1, HMa.out.off HWa.out q3', (q3'.block X (by omega) (fun hf => by have := (HW.out.lt hf).1; omega)).trans HXa.out, HBa.out.trans ((HWa.out.off_below q3' (by omega)).mono hB)⟩)
          have hLle := leftW_le xid (wsOf ms)
          have hSle := stayW_le xid (wsOf ms)
          rw [wsOf_length] at hLle hSle
          have HTS := Lib.hid (fun j hj => take_step ms j hj)
          have HSI := Lib.hid (stays_iff xid)
          have HLA := Lib.hid (fun j hj => left_at xid ms j hj)
          have HSW := Lib.hid (fun j (hj : j < ms.length) => show stayW xid ((wsOf ms).take (j + 1)) = stayW xid ((wsOf ms).take j) ++ if stays (ms[j].x.came xid) then [ms[j].x.came xid] else [] by rw [take_step ms j hj, stayW_snoc])
          have HLW := Lib.hid (fun j (hj : j < ms.length) => show leftW xid ((wsOf ms).take (j + 1)) = leftW xid ((wsOf ms).take j) ++ if stays (ms[j].x.came xid) then [] else [ms[j].x.came xid] by rw [take_step ms j hj, leftW_snoc])
          have HFULL := Lib.hid (show (wsOf ms).take ms.length = wsOf ms by rw [← wsOf_length ms]; exact List.take_length)
          obtain ⟨i0, hi0, hz0, hz1, hz2⟩ := info_parts (show (Try.prog.info? 65).map (fun i => (i.zero, i.size, i.bytes)) = some (some (.agg #[.string ⟨#[]⟩, .string ⟨#[]⟩, .slice none 0 0]), 3, 56) by kernel_rfl)
          have I0 := Lib.hid hi0
          have Z0 := Lib.hid hz0
          have Z1 := Lib.hid hz1
          have Z2 := Lib.hid hz2
          have hXl0 : X < wa.heap.size := HXa.out.lt
          clear hX hwa hi0 hz0 hz1 hz2
          go_wp2_with (go_at_call 40; refine HCM.out.mono ?_; rintro e w4 ⟨p5, c5, v4, rfl, hg4, h4, m4, x4, b4⟩; have HG4 := Lib.hid hg4; have HW4 := Lib.hid h4; have HM4 := Lib.hid m4; have HX4 := Lib.hid x4; have HB4 := Lib.hid b4; clear hg4 h4 m4 x4 b4; rw [← HXE.out])
          have hXl4 := HX4.out.lt
          obtain ⟨N, hN⟩ : ∃ N, N = (leftW xid (wsOf ms)).length := ⟨_, rfl⟩
          rw [← hN] at HG4 hLle ⊢
          have HN := Lib.hid hN
          clear hN HCM
          go_loopw [12, 13, 14] (fun v12 v13 v14 wr => ∃ (j n : Nat) (ms2 : List Mo), j ≤ ms.length ∧ v14 = .int .i64 j ∧ v12 = .int .i64 n ∧ n = (leftW xid ((wsOf ms).take j)).length ∧ n ≤ j ∧ wsOf ms2 = stayW xid ((wsOf ms).take j) ∧ ms2.length ≤ j ∧ (∀ p ∈ ms2, MoOk p) ∧ ModAt wr w4.heap.size v13 ms2 ∧ Below w4.heap.size w4 wr) (fun _ _ v14 _ => ms.length - (intOf v14).toNat)
          case atStart => exact ⟨0, 0, [], Nat.zero_le _, rfl, rfl, rfl, Nat.le_refl _, rfl, Nat.le_refl _, (fun p hp => by cases hp), ⟨World.ownsRow_nil _ _ _ _, fun p hp => by cases hp⟩, Below.refl _ _⟩
          case round =>
            obtain ⟨j, n, ms2, hj, rfl, rfl, hn, hnj, hws2, hms2, hok2, hm2, hb2⟩ := hrel
            have HNE := Lib.hid hn
            have HWS2 := Lib.hid hws2
            have HOK2 := Lib.hid hok2
            have HM2 := Lib.hid hm2
            have HB2 := Lib.hid hb2
            clear hn hws2 hok2 hm2
            have q1 := (hb2.cell (p := ⟨X, 1, none⟩) hXl4).trans (HX4.out.cell 1)
            simp only [List.getElem?_cons_zero, List.getElem?_cons_succ] at q1
            by_cases hjl : j < ms.length
            · obtain ⟨gm, rfl⟩ := HPM.out (by omega)
              have hgml := (own_lt HM4.out.row (g := gm) rfl).1
              obtain ⟨d0, d1, d2⟩ := rowM_cells HM4.out.row j hjl
              have hmo := HM4.out.each _ (List.getElem_mem hjl)
              obtain ⟨pv, cv, hmv, hsv⟩ := own_texts hmo
              rw [hmv] at d2
              have e0 := (hb2.cell (p := ⟨gm, j * 3, none⟩) hgml).trans d0
              have e1 := (hb2.cell (p := ⟨gm, j * 3 + 1, none⟩) hgml).trans d1
              have e2 := (hb2.cell (p := ⟨gm, j * 3 + 2, none⟩) hgml).trans d2
              have HSV := Lib.hid (hsv.below (hb2.mono (Nat.le_refl _)))
              have HOKJ := Lib.hid (HOK.out _ (List.getElem_mem hjl))
              have HSWJ := Lib.hid (HSW.out j hjl)
              have HLWJ := Lib.hid (HLW.out j hjl)
              have HSIJ := Lib.hid (HSI.out ms[j].x)
              have HLAJ := Lib.hid (HLA.out j hjl)
              clear d0 d1 d2 hmo hmv hsv hb2
              generalize ms[j] = mo at *
              obtain ⟨⟨jid, jtx, jmb, jms⟩, jmv⟩ := mo
              simp only at e0 e1 e2 HSV
              have hjms : jms.length ≤ 60 := HOKJ.out.1
              obtain ⟨Y, hY⟩ : ∃ Y, Y = wr.heap.size := ⟨_, rfl⟩
              have hYw4 : w4.heap.size ≤ Y := by rw [hY]; exact HB2.out.size
              have HYE := Lib.hid hY
              have q1a : ∀ o, (wr.alloc o).cell? ⟨X, 1, none⟩ = some (.string xid) := fun o => Lib.cell?_alloc_some _ q1
              have hYl : Y < (wr.alloc (.cells #[.string jid, .string jtx, .slice pv jms.length cv] 65)).heap.size := by rw [hY]; simp
              have HWT := Lib.hid (show Calls Try.prog 41 #[.slice pv jms.length cv, .string xid] (wr.alloc (.cells #[.string jid, .string jtx, .slice pv jms.length cv] 65)) fun e w7 => ∃ p7 c7, e = .returned (.slice p7 (strike jms xid).length c7) ∧ w7.ownsRow (Y + 1) 9 1 (.slice p7 (strike jms xid).length c7) (strike jms xid).length ((strike jms xid).map Value.string) ∧ Blk w7 Y 65 [.string jid, .string jtx, .slice pv jms.length cv] ∧ Below w4.heap.size w4 (w7.setCell ⟨Y, 2, none⟩ (.slice p7 (strike jms xid).length c7)) ∧ (∀ g, g < Y → (w7.setCell ⟨Y, 2, none⟩ (.slice p7 (strike jms xid).length c7)).heap[g]? = wr.heap[g]?) ∧ Y + 1 ≤ w7.heap.size by
                have hz : (wr.alloc (.cells #[.string jid, .string jtx, .slice pv jms.length cv] 65)).heap.size = Y + 1 := by rw [hY]; simp
                refine (rwithout_any (cap := cv) (HSV.out.below ((Below.refl _ _).alloc (Nat.le_refl _) _)) (by omega) xid).mono ?_
                rintro e w7 ⟨v7, rfl, hr, hb⟩
                obtain ⟨p7, c7, rfl, _⟩ := own_texts hr
                rw [hz] at hr hb
                have old : ∀ g, g < Y → (w7.setCell ⟨Y, 2, none⟩ (.slice p7 (strike jms xid).length c7)).heap[g]? = wr.heap[g]? := fun g hg => (Below.heap_setCell w7 ⟨Y, 2, none⟩ _ g (by show g ≠ Y; omega)).trans ((hb.block g (by omega)).trans (heap_alloc_old wr _ (by rw [← hY]; exact hg)))
                refine ⟨p7, c7, rfl, hr, (hb.block Y (by omega)).trans (by rw [hY]; exact Blk.new wr _ [.string jid, .string jtx, .slice pv jms.length cv]), ?_, old, by have := hb.size; omega⟩
                exact (((HB2.out.alloc HB2.out.size (.cells #[.string jid, .string jtx, .slice pv jms.length cv] 65)).trans (hb.mono (by omega))).setCell (p := ⟨Y, 2, none⟩) hYw4 _))
              have HRW := Lib.hid (fun g hg => (own_lt HM2.out.row (g := g) hg).1)
              clear hY hYl
              have HST8 := Lib.hid (strike_nodup (l := jms))
              have HSL := Lib.hid (show ∀ s ∈ strike jms xid, s ∈ jms from fun s hs => (mem_strike.1 hs).1)
              have hsl : (strike jms xid).length ≤ jms.length := List.length_filter_le _ _
              by_cases hz : 0 < (strike jms xid).length
              · have hzi : (0 : Int) < ((strike jms xid).length : Int) := by omega
                have hst : stays (Wt.came xid ⟨jid, jtx, jmb, jms⟩) = true := by rw [HSIJ.out]; exact decide_eq_true hz
                have HS1 := Lib.hid (show stayW xid ((wsOf ms).take (j + 1)) = wsOf ms2 ++ [Wt.came xid ⟨jid, jtx, jmb, jms⟩] by rw [HSWJ.out, if_pos hst, HWS2.out])
                have HL1 := Lib.hid (show n = (leftW xid ((wsOf ms).take (j + 1))).length by rw [HLWJ.out, if_pos hst, List.append_nil]; exact HNE.out)
                have H1 := Lib.hid (show ms2.length + 1 ≤ maxLen by unfold maxLen; omega)
                have H2 := Lib.hid (show (ms2.length + 1) * 56 ≤ 140737488355328 by omega)
                clear hst hsl
                go_wp2_with (first
                  | (go_at_call 41; refine HWT.out.mono ?_; rintro e w7 ⟨p7, c7, rfl, hr7, hy7, hb7, ho7, hs7⟩; have HR7 := Lib.hid hr7; have HB7 := Lib.hid hb7; have HO7 := Lib.hid ho7; have HS7 := Lib.hid hs7; have y0 := hy7.cell 0; have y1 := hy7.cell 1; have y2 := hy7.cell 2; have fy := hy7.frozen 2; simp only [List.getElem?_cons_zero, List.getElem?_cons_succ] at y0 y1 y2; have HON := Lib.hid (show ∀ u ∈ [Value.string jid, .string jtx, .slice p7 (strike jms xid).length c7], u.oneCell' = true from fun u hu => by
                      simp only [List.mem_cons, List.not_mem_nil, or_false] at hu; rcases hu with rfl | rfl | rfl <;> rfl); have HM7 := Lib.hid (show ModAt (w7.setCell ⟨Y, 2, none⟩ (.slice p7 (strike jms xid).length c7)) w4.heap.size _ ms2 from HM2.out.keep (fun g cur t hc _ _ => HO7.out g (by rw [HYE.out]; exact (Array.getElem?_eq_some_iff.1 hc).1))); clear hr7 hy7 hb7 ho7 hs7; rw [← HYE.out])
                  | (at_builtin; refine wpList_append_own _ rfl _ _ 58 rfl w4.heap.size 65 i0 (.agg #[.string ⟨#[]⟩, .string ⟨#[]⟩, .slice none 0 0]) 3 56 Try.underlying58 I0.out Z0.out Z1.out Z2.out rfl (by decide) _ ms2.length (cellsM ms2) rfl (HM7.out.row.alloc _) ⟨w7.heap.size, 0, none⟩ 1 1 [.string jid, .string jtx, .slice p7 (strike jms xid).length c7] rfl rfl (by
                      have := World.news_of_block (cs := #[.string jid, .string jtx, .slice p7 (strike jms xid).length c7]) (t := 65) (fr := (0, 0)) (heap_alloc_new (w7.setCell ⟨Y, 2, none⟩ (.slice p7 (strike jms xid).length c7)) _)
                      simpa using this) HON.out H1.out H2.out (by have := HB7.out.size; simp at this ⊢; omega) ?_; intro v9 w9 ho9 hg9 _; have HO9 := Lib.hid ho9; have HG9 := Lib.hid hg9; clear ho9 hg9))
                go_roundw
                case rel =>
                  have hg := HG9.out
                  have hk : ∀ g, g < (w7.setCell ⟨Y, 2, none⟩ (.slice p7 (strike jms xid).length c7)).heap.size → Value.ownBlock _ ≠ some g → w9.heap[g]? = (w7.setCell ⟨Y, 2, none⟩ (.slice p7 (strike jms xid).length c7)).heap[g]? := fun g hlt hne => (hg.block g (by simp at hlt ⊢; omega) (fun e => hne e.symm)).trans (heap_alloc_old _ _ hlt)
                  have hrow7 : (w7.setCell ⟨Y, 2, none⟩ (.slice p7 (strike jms xid).length c7)).ownsRow w4.heap.size 9 1 (.slice p7 (strike jms xid).length c7) (strike jms xid).length ((strike jms xid).map Value.string) := rowS_weak (own_kept HR7.out (fun g hg2 => Below.heap_setCell w7 ⟨Y, 2, none⟩ _ g (by have := (own_lt HR7.out hg2).2.1; show g ≠ Y; omega))) (by omega)
                  have hm9 := HM7.out.more (p := ⟨Wt.came xid ⟨jid, jtx, jmb, jms⟩, .slice p7 (strike jms xid).length c7⟩) hrow7 hk HO9.out
                  refine ⟨j + 1, n, ms2 ++ [⟨Wt.came xid ⟨jid, jtx, jmb, jms⟩, .slice p7 (strike jms xid).length c7⟩], by omega, by go_num, rfl, HL1.out, by omega, ?_, by simp; omega, fun p hp => ?_, hm9, ?_⟩
                  · rw [HS1.out]; unfold wsOf; rw [List.map_append]; rfl
                  · rcases List.mem_append.1 hp with h | h
                    · exact HOK2.out p h
                    · rw [List.mem_singleton.1 h]
                      exact ⟨Nat.le_trans (List.length_filter_le _ _) hjms, HOKJ.out.2.1, fun s hs => HOKJ.out.2.2 s (HSL.out s hs)⟩
                  · exact (HB7.out.alloc HB7.out.size _).grown hg (by have := HB7.out.size; simp at this ⊢; omega) (fun g hg2 => (own_lt HM7.out.row hg2).2.1)
                case measure => simp [intOf]; omega
              · have hz0 : (strike jms xid).length = 0 := by omega
                have hst : stays (Wt.came xid ⟨jid, jtx, jmb, jms⟩) = false := by rw [HSIJ.out]; exact decide_eq_false hz
                obtain ⟨hnN, hnat⟩ := HLAJ.out hst
                have HS1 := Lib.hid (show wsOf ms2 = stayW xid ((wsOf ms).take (j + 1)) by rw [HSWJ.out, hst, HWS2.out]; simp)
                have HL1 := Lib.hid (show n + 1 = (leftW xid ((wsOf ms).take (j + 1))).length by rw [HLWJ.out, hst, HNE.out]; simp)
                have hnN2 : n < N := by rw [HNE.out, HN.out]; exact hnN
                obtain ⟨p5', c5', e5, _, _, hp5⟩ := rowS_form HG4.out
                cases e5
                obtain ⟨gp, rfl⟩ := hp5 (by omega)
                have HGC := Lib.hid (show ∀ w', Below w4.heap.size w4 w' → w'.cell? ⟨gp, n * 2, none⟩ = some (.string jid) ∧ w'.cell? ⟨gp, n * 2 + 1, none⟩ = some (.string jtx) from fun w' hb => by
                  have hgl := (own_lt HG4.out (g := gp) rfl).1
                  have hc := rowG_cells HG4.out n (by rw [HNE.out]; exact hnN)
                  have e1 : (leftW xid (wsOf ms))[n]'(by rw [HNE.out]; exact hnN) = Wt.came xid ⟨jid, jtx, jmb, jms⟩ := by
                    rw [← hnat]; congr 1
                  rw [e1] at hc
                  exact ⟨(hb.cell (p := ⟨gp, n * 2, none⟩) hgl).trans hc.1, (hb.cell (p := ⟨gp, n * 2 + 1, none⟩) hgl).trans hc.2⟩)
                have hnNi : ¬ ((N : Int) ≤ (n : Int)) := by omega
                have heqi := beqWT (a := jid)
                have heqt := beqWT (a := jtx)
                rw [hz0] at HWT
                clear hst hnat hnN hsl hp5
                go_wp2_with (go_at_call 41; refine HWT.out.mono ?_; rintro e w7 ⟨p7, c7, rfl, hr7, hy7, hb7, ho7, hs7⟩; have HB7 := Lib.hid hb7; have HO7 := Lib.hid ho7; have y0 := hy7.cell 0; have y1 := hy7.cell 1; have y2 := hy7.cell 2; have fy := hy7.frozen 2; simp only [List.getElem?_cons_zero, List.getElem?_cons_succ] at y0 y1 y2; have HY7 := Lib.hid hy7; have g0 := (HGC.out _ hb7).1; have g1 := (HGC.out _ hb7).2; have HM7 := Lib.hid (show ModAt (w7.setCell ⟨Y, 2, none⟩ (.slice p7 0 c7)) w4.heap.size _ ms2 from HM2.out.keep (fun g cur t hc _ _ => HO7.out g (by rw [HYE.out]; exact (Array.getElem?_eq_some_iff.1 hc).1))); clear hr7 hy7 hb7 ho7 hs7; rw [← HYE.out])
                have z0 : (w7.setCell ⟨Y, 2, none⟩ (.slice p7 0 c7)).cell? ⟨Y, 0, none⟩ = some (.string jid) := (HY7.out.set 2 (.slice p7 0 c7)).cell 0
                have z1 : (w7.setCell ⟨Y, 2, none⟩ (.slice p7 0 c7)).cell? ⟨Y, 1, none⟩ = some (.string jtx) := (HY7.out.set 2 (.slice p7 0 c7)).cell 1
                have B8 := Lib.hid HB7.out
                have M8 := Lib.hid HM7.out
                generalize w7.setCell ⟨Y, 2, none⟩ (.slice p7 0 c7) = w8 at *
                clear y0 y1 y2 fy HB7 HM7 HO7 HY7
                go_quiet (fail)
                go_wp2
                go_roundw
                case rel => exact ⟨j + 1, n + 1, ms2, by omega, by go_num, by go_num, HL1.out, by omega, HS1.out, by omega, HOK2.out, M8.out.keep (fun _ _ _ _ _ _ => rfl), below_drewN B8.out _⟩
                case measure => simp [intOf]; omega
            · obtain rfl : j = ms.length := by omega
              rw [HFULL.out] at HNE HWS2
              have HNN := Lib.hid (show n = N by rw [HNE.out, HN.out])
              obtain ⟨p13, c13, rfl, _⟩ := rowS_form HM2.out.row
              have hnn := HNN.out
              have HWt := Lib.hid (show WaitAt wr B B places v4 (wsOf ms2) by rw [HWS2.out]; exact HW4.out.below HB2.out (Nat.le_refl _))
              have HMt := Lib.hid (HM2.out.weak (b' := B) (Nat.le_of_lt HW4.out.blk.lt))
              have HOKt := Lib.hid HOK2.out
              have HXt := Lib.hid (HX4.out.below HB2.out hXl4)
              have HBt := Lib.hid (HB4.out.trans (HB2.out.mono HB4.out.size))
              have HPLt := Lib.hid (show ms2.length ≤ places by omega)
              have hml : ms2.length ≤ 60 := by omega
              have hmk1 : ms2.length ≤ k + 1 := by omega
              subst hnn
              clear q1 hb2 hLle hSle HTS HSI HLA HSW HLW HG4 HW4 HM4 HM2 HB2 HWS2 HNE HNN HN HX4 HB4 HOK2
              go_wp2
              have HLEN := Lib.hid (fun wq hq => tl_len HWt.out wq hq)
              have HHAS := Lib.hid (fun wq hq => tl_has HWt.out xid wq hq)
              have HFND := Lib.hid (fun wq hq => tl_find HMt.out xid wq hq)
              have HMIS := Lib.hid (fun wq hq => tl_miss HWt.out (by rw [wsOf_length]; omega) HOKt.out wq hq)
              have HMS2 := Lib.hid (fun wq hq => tl_miss2 HMt.out hml HOKt.out wq hq)
              have HSAM := Lib.hid (fun wq p c p' c' h1 h2 hq => tl_same (wt := wr) (M := missW (wsOf ms2)) (missW_le hml HOKt.out) wq p c p' c' h1 h2 hq)
              have HFB := Lib.hid (findI_neg (ws := wsOf ms2) (s := xid))
              have hwl := wsOf_length ms2
              rw [hwl] at HLEN
              have hfb := HFB.out
              have hXl := HXt.out.lt
              have k1 := HXt.out.cell 1
              simp only [List.getElem?_cons_zero, List.getElem?_cons_succ] at k1
              have bdr : Below wr.heap.size wr wr.drew := (Below.refl _ _).drew
              generalize findI (wsOf ms2) xid = ff at *
              generalize (findW (wsOf ms2) xid).isSome = fb at *
              generalize missW (wsOf ms2) = M at *
              clear hwl
              go_region_held3 (fun w' => w'.cell? ⟨X, 1, none⟩ = some (.string xid))
                (first | with_reducible exact (b15.cell (p := ⟨X, 1, none⟩) hXl).trans k1 | with_reducible exact (b14.cell (p := ⟨X, 1, none⟩) hXl).trans k1 | with_reducible exact (b13.cell (p := ⟨X, 1, none⟩) hXl).trans k1 | with_reducible exact (b12.cell (p := ⟨X, 1, none⟩) hXl).trans k1 | with_reducible exact (b11.cell (p := ⟨X, 1, none⟩) hXl).trans k1 | with_reducible exact (b10.cell (p := ⟨X, 1, none⟩) hXl).trans k1 | with_reducible exact (bdr.cell (p := ⟨X, 1, none⟩) hXl).trans k1 | with_reducible exact k1 | with_reducible exact kk1 | fail)
                (first
                  | (go_at_call 43; refine (HLEN.out _ (by first | exact bdr)).mono ?_; rintro e w10 ⟨rfl, b10⟩)
                  | (go_at_call 44; refine (HHAS.out _ (by first | exact b10)).mono ?_; rintro e w11 ⟨rfl, b11⟩)
                  | (go_at_call 38; refine (HFND.out _ (by first | exact b11)).mono ?_; rintro e w12 ⟨rfl, b12⟩)
                  | (go_at_call 45; refine (HMIS.out _ (by first | exact b12)).mono ?_; rintro e w13 ⟨p13, c13, rfl, s13, b13⟩)
                  | (go_at_call 46; refine (HMS2.out _ (by first | exact b13)).mono ?_; rintro e w14 ⟨p14, c14, rfl, s14, b14, b14'⟩)
                  | (go_at_call 21; refine (HSAM.out _ p13 c13 p14 c14 (s13.below b14') s14 b14).mono ?_; rintro e w15 ⟨rfl, b15⟩))
              have HW15 := Lib.hid (HWt.out.below b15 (Nat.le_refl _))
              have HM15 := Lib.hid (HMt.out.below b15 (Nat.le_refl _))
              have HB15 := Lib.hid (HBt.out.trans (b15.mono HBt.out.size))
              clear b15 k1 bdr
              go_wp2
              go_roundw
              case rel => exact ⟨k + 1, _, ms2, by omega, by go_num, HW15.out, HM15.out, by omega, HPLt.out, HOKt.out, HB15.out⟩
              case measure => simp [intOf]; omega
      have hkn1 : (kd == 1) = false := beq_eq_false_iff_ne.2 hk1
      have HFI := Lib.hid (show Calls Try.prog 38 #[.slice pm ms.length cm, .string xid] (wr.alloc (.cells #[.int .i64 kd, .string xid, .string xtx, .slice xat xms.length xcp] 60)) fun e w' => e = .returned (.int .i64 (findI (wsOf ms) xid)) ∧ w' = wr.alloc (.cells #[.int .i64 kd, .string xid, .string xtx, .slice xat xms.length xcp] 60) by rw [← HWA.out]; exact lfind_any HMa.out xid)
      have HDR := Lib.hid (show Calls Try.prog 42 #[.pointer (some ⟨B, 0, none⟩), .string xid] (wr.alloc (.cells #[.int .i64 kd, .string xid, .string xtx, .slice xat xms.length xcp] 60)) fun e w4 => e = .returned (.bool (findW (wsOf ms) xid).isSome) ∧ ∃ v4, WaitAt w4 B B places v4 (dropW (wsOf ms) xid) ∧ ModAt w4 B (.slice pm ms.length cm) ms ∧ Blk w4 X 60 [.int .i64 kd, .string xid, .string xtx, .slice xat xms.length xcp] ∧ Below w.heap.size w w4 by
        rw [← HWA.out]
        have hwb := HW.out.blk.lt
        have hXs : wa.heap.size = X + 1 := by rw [HWA.out, hX]; simp
        refine (wdrop_any HWa.out xid (by omega)).mono ?_
        rintro e w4 ⟨rfl, v4, q1, q3⟩
        exact ⟨rfl, v4, q1, HMa.out.off HWa.out q3, (q3.block X (by omega) (fun hf => by have := (HW.out.lt hf).1; omega)).trans HXa.out, HBa.out.trans ((HWa.out.off_below q3 (by omega)).mono hB)⟩)
      cases hfw : findW (wsOf ms) xid with
      | none =>
        have HFE := Lib.hid (show findI (wsOf ms) xid = -1 by unfold findI; rw [hfw])
        have hdw : dropW (wsOf ms) xid = wsOf ms := by unfold dropW; rw [hfw]
        rw [hdw, hfw] at HDR
        rw [HFE.out] at HFI
        clear hX hwa hfw hdw hk0 hk1
        as_aux_lemma =>
          go_wp2_with (first
            | (go_at_call 38; refine HFI.out.mono ?_; rintro e w5 ⟨rfl, e9⟩; rw [e9]; clear e9 w5)
            | (go_at_call 42; refine HDR.out.mono ?_; rintro e w4 ⟨rfl, v4, h4, m4, x4, b4⟩; have HWt := Lib.hid h4; have HMt := Lib.hid m4; have HXt := Lib.hid x4; have HBt := Lib.hid b4; clear h4 m4 x4 b4; rw [← HXE.out]))
          have HOKt := Lib.hid HOK.out
          have HPLt := Lib.hid hmp
          have hml : ms.length ≤ 60 := by omega
          have hmk1 : ms.length ≤ k + 1 := by omega
          clear HFI HDR
          have HLEN := Lib.hid (fun wq hq => tl_len HWt.out wq hq)
          have HHAS := Lib.hid (fun wq hq => tl_has HWt.out xid wq hq)
          have HFND := Lib.hid (fun wq hq => tl_find HMt.out xid wq hq)
          have HMIS := Lib.hid (fun wq hq => tl_miss HWt.out (by rw [wsOf_length]; omega) HOKt.out wq hq)
          have HMS2 := Lib.hid (fun wq hq => tl_miss2 HMt.out hml HOKt.out wq hq)
          have HSAM := Lib.hid (fun wq p c p' c' h1 h2 hq => tl_same (wt := w4) (M := missW (wsOf ms)) (missW_le hml HOKt.out) wq p c p' c' h1 h2 hq)
          have HFB := Lib.hid (findI_neg (ws := wsOf ms) (s := xid))
          have hwl := wsOf_length ms
          rw [hwl] at HLEN
          have hfb := HFB.out
          have hXl := HXt.out.lt
          have k1 := HXt.out.cell 1
          simp only [List.getElem?_cons_zero, List.getElem?_cons_succ] at k1
          have bdr : Below w4.heap.size w4 w4.drew := (Below.refl _ _).drew
          generalize findI (wsOf ms) xid = ff at *
          generalize (findW (wsOf ms) xid).isSome = fb at *
          generalize missW (wsOf ms) = M at *
          clear hwl
          go_region_held3 (fun w' => w'.cell? ⟨X, 1, none⟩ = some (.string xid))
            (first | with_reducible exact (b15.cell (p := ⟨X, 1, none⟩) hXl).trans k1 | with_reducible exact (b14.cell (p := ⟨X, 1, none⟩) hXl).trans k1 | with_reducible exact (b13.cell (p := ⟨X, 1, none⟩) hXl).trans k1 | with_reducible exact (b12.cell (p := ⟨X, 1, none⟩) hXl).trans k1 | with_reducible exact (b11.cell (p := ⟨X, 1, none⟩) hXl).trans k1 | with_reducible exact (b10.cell (p := ⟨X, 1, none⟩) hXl).trans k1 | with_reducible exact (bdr.cell (p := ⟨X, 1, none⟩) hXl).trans k1 | with_reducible exact k1 | with_reducible exact kk1 | fail)
            (first
              | (go_at_call 43; refine (HLEN.out _ (by first | exact bdr)).mono ?_; rintro e w10 ⟨rfl, b10⟩)
              | (go_at_call 44; refine (HHAS.out _ (by first | exact b10)).mono ?_; rintro e w11 ⟨rfl, b11⟩)
              | (go_at_call 38; refine (HFND.out _ (by first | exact b11)).mono ?_; rintro e w12 ⟨rfl, b12⟩)
              | (go_at_call 45; refine (HMIS.out _ (by first | exact b12)).mono ?_; rintro e w13 ⟨p13, c13, rfl, s13, b13⟩)
              | (go_at_call 46; refine (HMS2.out _ (by first | exact b13)).mono ?_; rintro e w14 ⟨p14, c14, rfl, s14, b14, b14'⟩)
              | (go_at_call 21; refine (HSAM.out _ p13 c13 p14 c14 (s13.below b14') s14 b14).mono ?_; rintro e w15 ⟨rfl, b15⟩))
          have HW15 := Lib.hid (HWt.out.below b15 (Nat.le_refl _))
          have HM15 := Lib.hid (HMt.out.below b15 (Nat.le_refl _))
          have HB15 := Lib.hid (HBt.out.trans (b15.mono HBt.out.size))
          clear b15 k1 bdr
          go_wp2
          go_roundw
          case rel => exact ⟨k + 1, _, ms, by omega, by go_num, HW15.out, HM15.out, by omega, HPLt.out, HOKt.out, HB15.out⟩
          case measure => simp [intOf]; omega
      | some ix =>
        have HFE := Lib.hid (show findI (wsOf ms) xid = (ix : Int) by unfold findI; rw [hfw])
        have hdw : dropW (wsOf ms) xid = (wsOf ms).eraseIdx ix := by unfold dropW; rw [hfw]
        obtain ⟨hix', hq8, hq9⟩ := findW_some hfw
        clear hq8 hq9
        have hix : ix < ms.length := by rw [wsOf_length] at hix'; exact hix'
        rw [hdw, hfw] at HDR
        rw [HFE.out] at HFI
        obtain ⟨gm, rfl⟩ := HPM.out (by omega)
        obtain ⟨i0, hi0, hz0, hz1, hz2⟩ := info_parts (show (Try.prog.info? 65).map (fun i => (i.zero, i.size, i.bytes)) = some (some (.agg #[.string ⟨#[]⟩, .string ⟨#[]⟩, .slice none 0 0]), 3, 56) by kernel_rfl)
        have I0 := Lib.hid hi0
        have Z0 := Lib.hid hz0
        have Z1 := Lib.hid hz1
        have Z2 := Lib.hid hz2
        have HLT := Lib.hid (show (cellsM (ms.take ix)).length = ix * 3 by rw [cellsM_length, List.length_take]; omega)
        have HLD := Lib.hid (show (cellsM (ms.drop (ix + 1))).length = (ms.length - (ix + 1)) * 3 by rw [cellsM_length, List.length_drop])
        have HMV := Lib.hid (show ∀ p ∈ ms, p.mv.oneCell' = true from fun p hp => by obtain ⟨pp, cc, e, _⟩ := own_texts (HMD.out.each p hp); rw [e]; rfl)
        have HOT := Lib.hid (cellsM_one (ms.take ix) (fun p hp => HMV.out p (List.mem_of_mem_take hp)))
        have HOD := Lib.hid (cellsM_one (ms.drop (ix + 1)) (fun p hp => HMV.out p (List.mem_of_mem_drop hp)))
        have H1 := Lib.hid (show 0 + ix ≤ maxLen by unfold maxLen; omega)
        have H2 := Lib.hid (show (0 + ix) * 56 ≤ 140737488355328 by omega)
        have H3 := Lib.hid (show ix + (ms.length - (ix + 1)) ≤ maxLen by unfold maxLen; omega)
        have H4 := Lib.hid (show (ix + (ms.length - (ix + 1))) * 56 ≤ 140737488355328 by omega)
        clear hX hwa hfw hdw hk0 hk1 hi0 hz0 hz1 hz2 hix'
        go_wp2_with (first
          | (go_at_call 38; refine HFI.out.mono ?_; rintro e w5 ⟨rfl, e9⟩; rw [e9]; clear e9 w5)
          | (go_at_call 42; refine HDR.out.mono ?_; rintro e w4 ⟨rfl, v4, h4, m4, x4, b4⟩; have HW4 := Lib.hid h4; have HM4 := Lib.hid m4; have HX4 := Lib.hid x4; have HB4 := Lib.hid b4; have y1 := x4.cell 1; simp only [List.getElem?_cons_zero, List.getElem?_cons_succ] at y1; clear h4 m4 x4 b4; rw [← HXE.out]))
        have hXl4 := HX4.out.lt
        have hgml := (own_lt HM4.out.row (g := gm) rfl).1
        have z1' : w4.drew.cell? ⟨X, 1, none⟩ = some (.string xid) := y1
        have a1 : ∀ o, (w4.alloc o).drew.cell? ⟨X, 1, none⟩ = some (.string xid) := fun o => Lib.cell?_alloc_some (W := w4) o y1
        have HL0 := Lib.hid (show ∀ wx, Like w4 (.cells #[] 65) wx → wx.ownsRow w4.heap.size 65 3 (.slice (some ⟨w4.heap.size, 0, none⟩) 0 0) 0 [] from fun wx hl => ⟨rfl, .inr ⟨w4.heap.size, 0, #[], rfl, Nat.le_refl _, hl.new, Nat.le_refl _, Nat.zero_le _, rfl, rfl⟩⟩)
        have HS0 := Lib.hid (show ∀ wx, Like w4 (.cells #[] 65) wx → w4.heap.size ≤ wx.heap.size from fun wx hl => by have := hl.size; omega)
        have HG0 := Lib.hid (show ∀ w9, w4.grownBy w9 (Value.ownBlock (.slice (some ⟨w4.heap.size, 0, none⟩) 0 0)) → Below w4.heap.size w4 w9 from fun w9 hg => (Below.refl _ _).grown hg (Nat.le_refl _) (fun j hj => Nat.le_of_eq (by simpa [Value.ownBlock] using hj)))
        have HNW1 := Lib.hid (show ∀ wx, Like w4 (.cells #[] 65) wx → ∀ j u, (cellsM (ms.take ix))[j]? = some u → wx.cell? ((⟨gm, 0, none⟩ : Addr).add j) = some u from fun wx hl j u hu => by
          have hj := (List.getElem?_eq_some_iff.1 hu).1
          rw [HLT.out] at hj
          rw [Go.WideShapes.add_plain, Nat.zero_add]
          refine (World.cell?_of_block (a := ⟨gm, j, none⟩) (hl.old hgml)).trans ?_
          rw [(ownS_cell HM4.out.row j (by omega)).1, ← hu, ← cellsM_take, List.getElem?_take_of_lt hj])
        have j0 : (0 : Int) ≤ (ix : Int) + 1 := by omega
        have j1 : ix ≤ cm := by omega
        have j2 : ix + 1 ≤ ms.length := by omega
        have j3 : ix + 1 ≤ cm := by omega
        have j4 : (ix : Int) ≤ 60 := by omega
        have j6 : (ix : Int) + 1 ≤ (ms.length : Int) := by omega
        have j7 : (ms.length : Int) ≤ (cm : Int) := by omega
        have j8 : IntKind.i64.wrap ((ix : Int) + 1) = (ix : Int) + 1 := by rw [IntKind.wrap_i64]; omega
        have j9 : ((ix : Int) + 1).toNat = ix + 1 := by omega
        have j10 : (0 : Int) ≤ (ix : Int) := by omega
        have j11 : (ix : Int) ≤ (cm : Int) := by omega
        have j12 : (ix : Int) ≤ (ms.length : Int) := by omega
        as_aux_lemma =>
          by_cases hcm9 : ix + 1 < cm
          · have j5 : ¬ cm = ix + 1 := by omega
            have HNW2 := Lib.hid (show ∀ w', Below w4.heap.size w4 w' → ∀ j u, (cellsM (ms.drop (ix + 1)))[j]? = some u → w'.cell? ((⟨gm, (ix+1)*3, none⟩ : Addr).add j) = some u from fun w' hb j u hu => by
              have hj := (List.getElem?_eq_some_iff.1 hu).1
              rw [cellsM_length, List.length_drop] at hj
              rw [Go.WideShapes.add_plain]
              refine (hb.cell (p := ⟨gm, (ix+1)*3 + j, none⟩) hgml).trans ?_
              rw [show ((ix+1)*3 + j) = (ix + 1) * 3 + j by omega]
              rw [(ownS_cell HM4.out.row ((ix + 1) * 3 + j) (by omega)).1, ← List.getElem?_drop, cellsM_drop _ _ (by omega)]
              exact hu)
            go_wp2_with fail
            go_region_held3 (fun w' => w'.cell? ⟨X, 1, none⟩ = some (.string xid))
              (first | with_reducible exact t10 | with_reducible exact t9 | with_reducible exact a1 _ | with_reducible exact z1' | with_reducible exact y1 | with_reducible exact kk1 | fail)
              (first
                | (refine step_append_any (by rfl) _ _ 58 (by rfl) w4.heap.size 65 i0 (.agg #[.string ⟨#[]⟩, .string ⟨#[]⟩, .slice none 0 0]) 3 56 Try.underlying58 I0.out Z0.out Z1.out Z2.out rfl (by decide) _ ix (cellsM (ms.take ix)) (by rfl) O9.out ⟨gm, (ix+1)*3, none⟩ (ms.length-(ix+1)) (cm-(ix+1)) (cellsM (ms.drop (ix + 1))) (by rfl) HLD.out (HNW2.out _ W9.out) HOD.out H3.out H4.out (by exact W9.out.size) ?_; intro v10 w10 ho10 hg10; have O10 := Lib.hid ho10; have W10 := Lib.hid (W9.out.grown hg10 W9.out.size (fun j hj => (own_lt O9.out hj).2.1)); have t10 := (W10.out.cell (p := ⟨X, 1, none⟩) hXl4).trans y1; obtain ⟨p10, c10, rfl, _⟩ := rowS_form ho10; clear ho10 hg10)
                | (refine step_append_any (by rfl) _ _ 58 (by rfl) w4.heap.size 65 i0 (.agg #[.string ⟨#[]⟩, .string ⟨#[]⟩, .slice none 0 0]) 3 56 Try.underlying58 I0.out Z0.out Z1.out Z2.out rfl (by decide) _ 0 [] (by rfl) (HL0.out _ ⟨by rfl, by rfl, by rfl, by rfl⟩) ⟨gm, 0, none⟩ ix cm (cellsM (ms.take ix)) (by rfl) HLT.out (HNW1.out _ ⟨by rfl, by rfl, by rfl, by rfl⟩) HOT.out H1.out H2.out (HS0.out _ ⟨by rfl, by rfl, by rfl, by rfl⟩) ?_; intro v9 w9 ho9 hg9; have O9 := Lib.hid (show w9.ownsRow w4.heap.size 65 3 v9 ix (cellsM (ms.take ix)) by simpa using ho9); have W9 := Lib.hid (HG0.out w9 (Like.grown (o := .cells #[] 65) ⟨by rfl, by rfl, by rfl, by rfl⟩ hg9)); have t9 := (W9.out.cell (p := ⟨X, 1, none⟩) hXl4).trans y1; obtain ⟨p9, c9, rfl, _⟩ := rowS_form ho9; clear ho9 hg9))
            obtain ⟨ms', hms'⟩ : ∃ ms', ms' = ms.eraseIdx ix := ⟨_, rfl⟩
            have hl' : ix + (ms.length-(ix+1)) = ms'.length := by rw [hms', List.length_eraseIdx_of_lt hix]; omega
            rw [hl'] at O10 ⊢
            skip
            have HWt := Lib.hid (show WaitAt w10 B B places v4 (wsOf ms') by
              have e : wsOf ms' = (wsOf ms).eraseIdx ix := by rw [hms', erase_take, erase_take]; unfold wsOf; rw [List.map_append, List.map_take, List.map_drop]
              rw [e]
              exact HW4.out.below W10.out (Nat.le_refl _))
            have HMt := Lib.hid (show ModAt w10 B (.slice p10 ms'.length c10) ms' by
              refine ⟨?_, fun p hp => ?_⟩
              · have e : cellsM ms' = cellsM (ms.take ix) ++ cellsM (ms.drop (ix + 1)) := by rw [hms', erase_take, cellsM_append]
                rw [e]; exact rowS_weak O10.out (Nat.le_of_lt HW4.out.blk.lt)
              · rw [hms'] at hp
                exact (HM4.out.below W10.out (Nat.le_refl _)).each p (List.mem_of_mem_eraseIdx hp))
            have HOKt := Lib.hid (show ∀ p ∈ ms', MoOk p by rw [hms']; exact fun p hp => HOK.out p (List.mem_of_mem_eraseIdx hp))
            have HXt := Lib.hid (HX4.out.below W10.out hXl4)
            have HBt := Lib.hid (HB4.out.trans (W10.out.mono HB4.out.size))
            have HPLt := Lib.hid (show ms'.length ≤ places by omega)
            have hml : ms'.length ≤ 60 := by omega
            have hmk1 : ms'.length ≤ k + 1 := by omega
            clear a1 t9 t10 y1 z1' hl' hms' HFI HDR HW4 HM4 HX4 HB4 O9 O10 W9 W10 HNW1 HNW2 HL0 HS0 HG0 HLT HLD HOT HOD
            go_wp2
            have HLEN := Lib.hid (fun wq hq => tl_len HWt.out wq hq)
            have HHAS := Lib.hid (fun wq hq => tl_has HWt.out xid wq hq)
            have HFND := Lib.hid (fun wq hq => tl_find HMt.out xid wq hq)
            have HMIS := Lib.hid (fun wq hq => tl_miss HWt.out (by rw [wsOf_length]; omega) HOKt.out wq hq)
            have HMS2 := Lib.hid (fun wq hq => tl_miss2 HMt.out hml HOKt.out wq hq)
            have HSAM := Lib.hid (fun wq p c p' c' h1 h2 hq => tl_same (wt := w10) (M := missW (wsOf ms')) (missW_le hml HOKt.out) wq p c p' c' h1 h2 hq)
            have HFB := Lib.hid (findI_neg (ws := wsOf ms') (s := xid))
            have hwl := wsOf_length ms'
            rw [hwl] at HLEN
            have hfb := HFB.out
            have hXl := HXt.out.lt
            have k1 := HXt.out.cell 1
            simp only [List.getElem?_cons_zero, List.getElem?_cons_succ] at k1
            have bdr : Below w10.heap.size w10 w10.drew := (Below.refl _ _).drew
            generalize findI (wsOf ms') xid = ff at *
            generalize (findW (wsOf ms') xid).isSome = fb at *
            generalize missW (wsOf ms') = M at *
            clear hwl
            go_region_held3 (fun w' => w'.cell? ⟨X, 1, none⟩ = some (.string xid))
              (first | with_reducible exact (b15.cell (p := ⟨X, 1, none⟩) hXl).trans k1 | with_reducible exact (b14.cell (p := ⟨X, 1, none⟩) hXl).trans k1 | with_reducible exact (b13.cell (p := ⟨X, 1, none⟩) hXl).trans k1 | with_reducible exact (b12.cell (p := ⟨X, 1, none⟩) hXl).trans k1 | with_reducible exact (b11.cell (p := ⟨X, 1, none⟩) hXl).trans k1 | with_reducible exact (b10.cell (p := ⟨X, 1, none⟩) hXl).trans k1 | with_reducible exact (bdr.cell (p := ⟨X, 1, none⟩) hXl).trans k1 | with_reducible exact k1 | with_reducible exact kk1 | fail)
              (first
                | (go_at_call 43; refine (HLEN.out _ (by first | exact bdr)).mono ?_; rintro e w10 ⟨rfl, b10⟩)
                | (go_at_call 44; refine (HHAS.out _ (by first | exact b10)).mono ?_; rintro e w11 ⟨rfl, b11⟩)
                | (go_at_call 38; refine (HFND.out _ (by first | exact b11)).mono ?_; rintro e w12 ⟨rfl, b12⟩)
                | (go_at_call 45; refine (HMIS.out _ (by first | exact b12)).mono ?_; rintro e w13 ⟨p13, c13, rfl, s13, b13⟩)
                | (go_at_call 46; refine (HMS2.out _ (by first | exact b13)).mono ?_; rintro e w14 ⟨p14, c14, rfl, s14, b14, b14'⟩)
                | (go_at_call 21; refine (HSAM.out _ p13 c13 p14 c14 (s13.below b14') s14 b14).mono ?_; rintro e w15 ⟨rfl, b15⟩))
            have HW15 := Lib.hid (HWt.out.below b15 (Nat.le_refl _))
            have HM15 := Lib.hid (HMt.out.below b15 (Nat.le_refl _))
            have HB15 := Lib.hid (HBt.out.trans (b15.mono HBt.out.size))
            clear b15 k1 bdr
            go_wp2
            go_roundw
            case rel => exact ⟨k + 1, _, ms', by omega, by go_num, HW15.out, HM15.out, by omega, HPLt.out, HOKt.out, HB15.out⟩
            case measure => simp [intOf]; omega
          · have hce : cm = ix + 1 := by omega
            subst hce
            have j13 : (ix : Int) + 1 ≤ (ix : Int) + 1 := by omega
            have hm0 : ms.length - (ix + 1) = 0 := by omega
            rw [hm0] at HLD H3 H4
            clear hm0
            have r1 : ∀ n : Nat, (n ≤ n + 1) = True := fun n => eq_true (by omega)
            have r2 : ∀ n : Int, (n ≤ n + 1) = True := fun n => eq_true (by omega)
            have r3 : ∀ n : Int, (n + 1 ≤ n + 1) = True := fun n => eq_true (by omega)
            have HNW2 := Lib.hid (show ∀ w', Below w4.heap.size w4 w' → ∀ j u, (cellsM (ms.drop (ix + 1)))[j]? = some u → w'.cell? ((⟨gm, 0, none⟩ : Addr).add j) = some u from fun w' hb j u hu => by
              have hj := (List.getElem?_eq_some_iff.1 hu).1
              rw [cellsM_length, List.length_drop] at hj
              rw [Go.WideShapes.add_plain]
              refine (hb.cell (p := ⟨gm, 0 + j, none⟩) hgml).trans ?_
              rw [show (0 + j) = (ix + 1) * 3 + j by omega]
              rw [(ownS_cell HM4.out.row ((ix + 1) * 3 + j) (by omega)).1, ← List.getElem?_drop, cellsM_drop _ _ (by omega)]
              exact hu)
            go_wp2_with fail
            go_region_held3 (fun w' => w'.cell? ⟨X, 1, none⟩ = some (.string xid))
              (first | with_reducible exact t10 | with_reducible exact t9 | with_reducible exact a1 _ | with_reducible exact z1' | with_reducible exact y1 | with_reducible exact kk1 | fail)
              (first
                | (refine step_append_any (by rfl) _ _ 58 (by rfl) w4.heap.size 65 i0 (.agg #[.string ⟨#[]⟩, .string ⟨#[]⟩, .slice none 0 0]) 3 56 Try.underlying58 I0.out Z0.out Z1.out Z2.out rfl (by decide) _ ix (cellsM (ms.take ix)) (by rfl) O9.out ⟨gm, 0, none⟩ 0 0 (cellsM (ms.drop (ix + 1))) (by rfl) HLD.out (HNW2.out _ W9.out) HOD.out H3.out H4.out (by exact W9.out.size) ?_; intro v10 w10 ho10 hg10; have O10 := Lib.hid ho10; have W10 := Lib.hid (W9.out.grown hg10 W9.out.size (fun j hj => (own_lt O9.out hj).2.1)); have t10 := (W10.out.cell (p := ⟨X, 1, none⟩) hXl4).trans y1; obtain ⟨p10, c10, rfl, _⟩ := rowS_form ho10; clear ho10 hg10)
                | (refine step_append_any (by rfl) _ _ 58 (by rfl) w4.heap.size 65 i0 (.agg #[.string ⟨#[]⟩, .string ⟨#[]⟩, .slice none 0 0]) 3 56 Try.underlying58 I0.out Z0.out Z1.out Z2.out rfl (by decide) _ 0 [] (by rfl) (HL0.out _ ⟨by rfl, by rfl, by rfl, by rfl⟩) ⟨gm, 0, none⟩ ix (ix+1) (cellsM (ms.take ix)) (by rfl) HLT.out (HNW1.out _ ⟨by rfl, by rfl, by rfl, by rfl⟩) HOT.out H1.out H2.out (HS0.out _ ⟨by rfl, by rfl, by rfl, by rfl⟩) ?_; intro v9 w9 ho9 hg9; have O9 := Lib.hid (show w9.ownsRow w4.heap.size 65 3 v9 ix (cellsM (ms.take ix)) by simpa using ho9); have W9 := Lib.hid (HG0.out w9 (Like.grown (o := .cells #[] 65) ⟨by rfl, by rfl, by rfl, by rfl⟩ hg9)); have t9 := (W9.out.cell (p := ⟨X, 1, none⟩) hXl4).trans y1; obtain ⟨p9, c9, rfl, _⟩ := rowS_form ho9; clear ho9 hg9))
            obtain ⟨ms', hms'⟩ : ∃ ms', ms' = ms.eraseIdx ix := ⟨_, rfl⟩
            have hl' : ix + 0 = ms'.length := by rw [hms', List.length_eraseIdx_of_lt hix]; omega
            rw [hl'] at O10 ⊢
            have hl0 : ix = ms'.length := by omega
            first | rw [hl0] | skip
            clear hl0
            have HWt := Lib.hid (show WaitAt w10 B B places v4 (wsOf ms') by
              have e : wsOf ms' = (wsOf ms).eraseIdx ix := by rw [hms', erase_take, erase_take]; unfold wsOf; rw [List.map_append, List.map_take, List.map_drop]
              rw [e]
              exact HW4.out.below W10.out (Nat.le_refl _))
            have HMt := Lib.hid (show ModAt w10 B (.slice p10 ms'.length c10) ms' by
              refine ⟨?_, fun p hp => ?_⟩
              · have e : cellsM ms' = cellsM (ms.take ix) ++ cellsM (ms.drop (ix + 1)) := by rw [hms', erase_take, cellsM_append]
                rw [e]; exact rowS_weak O10.out (Nat.le_of_lt HW4.out.blk.lt)
              · rw [hms'] at hp
                exact (HM4.out.below W10.out (Nat.le_refl _)).each p (List.mem_of_mem_eraseIdx hp))
            have HOKt := Lib.hid (show ∀ p ∈ ms', MoOk p by rw [hms']; exact fun p hp => HOK.out p (List.mem_of_mem_eraseIdx hp))
            have HXt := Lib.hid (HX4.out.below W10.out hXl4)
            have HBt := Lib.hid (HB4.out.trans (W10.out.mono HB4.out.size))
            have HPLt := Lib.hid (show ms'.length ≤ places by omega)
            have hml : ms'.length ≤ 60 := by omega
            have hmk1 : ms'.length ≤ k + 1 := by omega
            clear a1 t9 t10 y1 z1' hl' hms' HFI HDR HW4 HM4 HX4 HB4 O9 O10 W9 W10 HNW1 HNW2 HL0 HS0 HG0 HLT HLD HOT HOD
            go_wp2
            have HLEN := Lib.hid (fun wq hq => tl_len HWt.out wq hq)
            have HHAS := Lib.hid (fun wq hq => tl_has HWt.out xid wq hq)
            have HFND := Lib.hid (fun wq hq => tl_find HMt.out xid wq hq)
            have HMIS := Lib.hid (fun wq hq => tl_miss HWt.out (by rw [wsOf_length]; omega) HOKt.out wq hq)
            have HMS2 := Lib.hid (fun wq hq => tl_miss2 HMt.out hml HOKt.out wq hq)
            have HSAM := Lib.hid (fun wq p c p' c' h1 h2 hq => tl_same (wt := w10) (M := missW (wsOf ms')) (missW_le hml HOKt.out) wq p c p' c' h1 h2 hq)
            have HFB := Lib.hid (findI_neg (ws := wsOf ms') (s := xid))
            have hwl := wsOf_length ms'
            rw [hwl] at HLEN
            have hfb := HFB.out
            have hXl := HXt.out.lt
            have k1 := HXt.out.cell 1
            simp only [List.getElem?_cons_zero, List.getElem?_cons_succ] at k1
            have bdr : Below w10.heap.size w10 w10.drew := (Below.refl _ _).drew
            generalize findI (wsOf ms') xid = ff at *
            generalize (findW (wsOf ms') xid).isSome = fb at *
            generalize missW (wsOf ms') = M at *
            clear hwl
            go_region_held3 (fun w' => w'.cell? ⟨X, 1, none⟩ = some (.string xid))
              (first | with_reducible exact (b15.cell (p := ⟨X, 1, none⟩) hXl).trans k1 | with_reducible exact (b14.cell (p := ⟨X, 1, none⟩) hXl).trans k1 | with_reducible exact (b13.cell (p := ⟨X, 1, none⟩) hXl).trans k1 | with_reducible exact (b12.cell (p := ⟨X, 1, none⟩) hXl).trans k1 | with_reducible exact (b11.cell (p := ⟨X, 1, none⟩) hXl).trans k1 | with_reducible exact (b10.cell (p := ⟨X, 1, none⟩) hXl).trans k1 | with_reducible exact (bdr.cell (p := ⟨X, 1, none⟩) hXl).trans k1 | with_reducible exact k1 | with_reducible exact kk1 | fail)
              (first
                | (go_at_call 43; refine (HLEN.out _ (by first | exact bdr)).mono ?_; rintro e w10 ⟨rfl, b10⟩)
                | (go_at_call 44; refine (HHAS.out _ (by first | exact b10)).mono ?_; rintro e w11 ⟨rfl, b11⟩)
                | (go_at_call 38; refine (HFND.out _ (by first | exact b11)).mono ?_; rintro e w12 ⟨rfl, b12⟩)
                | (go_at_call 45; refine (HMIS.out _ (by first | exact b12)).mono ?_; rintro e w13 ⟨p13, c13, rfl, s13, b13⟩)
                | (go_at_call 46; refine (HMS2.out _ (by first | exact b13)).mono ?_; rintro e w14 ⟨p14, c14, rfl, s14, b14, b14'⟩)
                | (go_at_call 21; refine (HSAM.out _ p13 c13 p14 c14 (s13.below b14') s14 b14).mono ?_; rintro e w15 ⟨rfl, b15⟩))
            have HW15 := Lib.hid (HWt.out.below b15 (Nat.le_refl _))
            have HM15 := Lib.hid (HMt.out.below b15 (Nat.le_refl _))
            have HB15 := Lib.hid (HBt.out.trans (b15.mono HBt.out.size))
            clear b15 k1 bdr
            go_wp2
            go_roundw
            case rel => exact ⟨k + 1, _, ms', by omega, by go_num, HW15.out, HM15.out, by omega, HPLt.out, HOKt.out, HB15.out⟩
            case measure => simp [intOf]; omega
    · obtain rfl : k = l.length := by omega
      clear hb
      go_wp2
      go_ret
      exact ⟨rfl, HB.out⟩

theorem own : ownKnob Try.prog.godebug = none := by kernel_rfl
theorem laidOut : laidOutB Try.prog = true := by kernel_rfl

set_option maxRecDepth 100000 in
theorem lifted (os : Os) (started : os.Started) (H : Type) (enc : TypeId × Value → H) :
    ReturnsInHanded {} Try.checked os 10 .any (Rows.waitPlaysSpec.pre6 enc Try.prog Try.f10 Rows.waitPlaysRow.domain false) (Rows.waitPlaysSpec.post enc Try.prog Try.f10 false true false false) := by
  refine returnsInHanded_of_change_sized (C := Try.checked) own started (by kernel_rfl) Try.func10
    (ChangeSpec.witness6 (enc := enc) (C := Try.checked) false ⟨#[], #[.int .i64 0, .slice none 0 0], []⟩ 8 (by kernel_rfl) (by kernel_rfl) (by kernel_rfl) (by kernel_rfl)) ?_
  intro W base args ds gs before hval0 hW _ hsz0 _
  have hsz : (DataW.weightsEach Try.prog (Try.f10.params.toList ++ Rows.waitPlaysSpec.plain.varTypes Try.prog) (ds ++ gs)).all (· ≤ reachBytes) = true := hsz0
  clear hsz0
  have hval : ∀ (j : Nat) t v, Try.f10.params[j]? = some t → args[j]? = some v → Value.okWide Try.prog W .any base t v := hval0
  have hW' := hW
  obtain ⟨p, q, hA0, hV, rfl, hfz, hnd⟩ := hW
  have hA : DataW.TrodAll enc Try.prog W 0 (fun _ => true) true Try.f10.params.toList args.toList ds p := hA0
  rw [Try.params10] at hA hval hsz
  obtain ⟨v0, vs0, d0, ds0, p0, q0, hargs, rfl, rfl, h0, r0⟩ := trodAll_cons hA
  obtain ⟨v1, vs1, d1, ds1, p1, q1, rfl, rfl, rfl, h1, r1⟩ := trodAll_cons r0
  obtain ⟨rfl, rfl, rfl⟩ := trodAll_nil r1
  obtain rfl : args = #[v0, v1] := by cases args; simp_all
  obtain ⟨rfl, rfl⟩ := trodVars_none hV
  obtain ⟨a0, rfl, rfl, rfl, w0⟩ := open_int Try.underlying3 (hval 0 3 v0 rfl rfl) h0
  obtain ⟨x1, len1, cap1, rfl⟩ := okWide_slice Try.underlying54 (hval 1 54 v1 rfl rfl)
  have k1 := h1
  have lt1 : ∀ x ∈ p1, x.block < W.heap.size := by obtain ⟨m, hm⟩ := k1; exact DataW.trod_lt m _ _ _ hm
  obtain ⟨l1, rfl, i1⟩ : ∃ l : List Wc, len1 = l.length ∧ WcsAt W x1 l := by
    obtain ⟨fuel, hf⟩ := h1
    exact wcs_of (show DataW.trod enc Try.prog W 0 (fun _ => true) true fuel 54 [.slice x1 len1 cap1] = some _ from hf) (lo_each hsz (j := 1) rfl rfl)
  clear hA0 hval0
  refine (walk a0 x1 cap1 l1 w0 W i1).mono fun e W' ⟨he, bel⟩ => ?_
  subst he
  exact ⟨_, rfl, _, _, _, [], _, [], hW', trodAll_mk1 (shut_bool Try.underlying4 _), (trodAll_cons_mk (shut_int Try.underlying3 w0) (trodAll_cons_mk (Below.trod laidOut (by kernel_rfl) (of_decide_eq_true (by kernel_rfl)) k1 bel lt1) trodAll_mk0)), rfl, bel.frame _, fun h => by cases h⟩

theorem over : Rows.waitPlaysRow.holds Try.pinned (OpenSpec.ofChange Rows.waitPlaysSpec) :=
  OpenClaim.holds_of_wide 10 Try.f10 rfl rfl rfl rfl rfl rfl rfl ⟨rfl, rfl, rfl, rfl, rfl⟩ rfl rfl rfl rfl rfl (by kernel_rfl) Try.func10 (by kernel_rfl)
    (of_decide_eq_true (by kernel_rfl)) (by unfold Func.isWrapper; first | (rw [if_pos (by decide +kernel)]; kernel_rfl) | (rw [if_neg (by decide +kernel)]; exact ⟨rfl, rfl⟩))
    (fun os started H enc _ => lifted os started H enc)

end Go.Proofs.Ytalpmnmpggljcaa.WaitPlays
namespace Go.Proofs.Ytalpmnmpggljcaa
theorem waitPlays_holds : Rows.WaitPlaysSaid := WaitPlays.over
#print axioms waitPlays_holds
end Go.Proofs.Ytalpmnmpggljcaa

