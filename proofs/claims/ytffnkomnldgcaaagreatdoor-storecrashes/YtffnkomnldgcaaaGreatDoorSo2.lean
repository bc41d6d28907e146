/-
  Contracts of package store: take, with takeRoom, takeUsed and takeDone.
-/
import Derived.Test.YtffnkomnldgcaaaGreatDoorSo1
namespace Go.Proofs.YtffnkomnldgcaaaGreatDoor
open Go.RowKit Go.Pal Go.Pal.Dk Go.Pal.Fr Go.Pal.Cr

theorem short_o (w : World) (b : Nat) (st : St) (h : RdO w b st) (hz : stSize st ≤ 281474976710656) :
    Calls Tryz.prog 51 #[.pointer (some ⟨b, 0, none⟩)] w fun e w' => e = .returned (.int .i64 ((numS 2 st).1 : Nat)) ∧ RdO w' b (numS 2 st).2 ∧ w.grownBy w' (some b) := by
  cases st with
  | some r =>
    refine (rshort_any w b r false h hz).mono ?_
    rintro e w' ⟨rfl, h1, h2⟩
    exact ⟨by rw [show (2 : Int) = ((2 : Nat) : Int) from rfl, rd_out]; rfl, rd_rest 2 r h1, h2⟩
  | none =>
    refine (rshort_any w b ByteArray.empty true h (by decide)).mono ?_
    rintro e w' ⟨rfl, h1, h2⟩
    exact ⟨by rw [show (2 : Int) = ((2 : Nat) : Int) from rfl, rd_out_bad]; rfl, rd_rest_bad 2 h1, h2⟩
theorem two_end (r : ByteArray) : endS (numS 2 (some r)).2 = decide (r.size = 2) := by
  by_cases h : 2 ≤ r.size
  · have e : r = r.extract 0 2 ++ r.extract 2 r.size := (ext_app r 2 h).symm
    have hz : (r.extract 0 2).size = 2 := by rw [ByteArray.size_extract]; omega
    have h2 : (numS 2 (some r)).2 = some (r.extract 2 r.size) := by
      show (takeS 2 (some r)).2 = _
      conv => lhs; rw [e]
      rw [takeS_app _ _ 2 hz]
    rw [h2]
    show decide ((r.extract 2 r.size).size = 0) = _
    rw [ByteArray.size_extract]
    exact decide_eq_decide.2 (by omega)
  · have h2 : (numS 2 (some r)).2 = none := by
      cases hh : (numS 2 (some r)).2 with
      | none => rfl
      | some y =>
        obtain ⟨a, _⟩ := numS_some hh
        have := congrArg ByteArray.size (Option.some.inj a)
        rw [ByteArray.size_append, be_size] at this
        omega
    rw [h2]
    show false = _
    rw [decide_eq_false (by omega)]
theorem two_val (r : ByteArray) (h : r.size = 2) : (numS 2 (some r)).1 = valL r.data.toList := by
  have e : takeS 2 (some (r ++ ByteArray.empty)) = (r, some ByteArray.empty) := takeS_app r ByteArray.empty 2 h
  rw [app_empty] at e
  show valL (takeS 2 (some r)).1.data.toList = _
  rw [e]
theorem two_lt (st : St) : (numS 2 st).1 ≤ 65535 := by
  have h := valL_lt (takeS 2 st).1.data.toList
  have h2 : (takeS 2 st).1.data.toList.length ≤ 2 := by
    have : (takeS 2 st).1.size ≤ 2 := by
      unfold takeS
      split
      · decide
      · split
        · rw [ByteArray.size_extract]; omega
        · decide
    simpa using this
  have h3 : 256 ^ (takeS 2 st).1.data.toList.length ≤ 256 ^ 2 := Nat.pow_le_pow_right (by decide) h2
  show valL (takeS 2 st).1.data.toList ≤ 65535
  omega
set_option maxHeartbeats 400000 in
set_option maxRecDepth 100000 in
theorem takeRoom_yes {w : World} {base B : Nat} {p : Value} {s : SS} {ev q : Value} (h : StAt w base B p s ev q) (r : ByteArray) (hr : r.size = 32) :
    Calls Tryz.prog 34 #[.pointer (some ⟨B, 1, none⟩), .string r] w fun e w' => e = .returned (.bool true) ∧ Taken w base B p ev q { s with room := r } w' := by
  have c1 : w.cell? ⟨B, 1, none⟩ = some (.string s.room) := h.blk.cell 1
  have f1 := h.blk.frozen 1
  have HT := Lib.hid (h.room r)
  clear h
  go_enter Tryz.func34, Tryz.ntmps34
  go_wp2
  go_ret
  exact ⟨rfl, HT.out⟩
set_option maxHeartbeats 400000 in
set_option maxRecDepth 100000 in
theorem takeRoom_no (w : World) (B : Nat) (r : ByteArray) (hr : ¬ r.size = 32) :
    Calls Tryz.prog 34 #[.pointer (some ⟨B, 1, none⟩), .string r] w fun e w' => e = .returned (.bool false) ∧ w' = w := by
  have hr2 : ¬ ((r.size : Int) = 32) := by omega
  go_enter Tryz.func34, Tryz.ntmps34
  go_wp2
  go_ret
  exact ⟨rfl, rfl⟩
theorem Taken.below {w w1 w' : World} {base B : Nat} {p ev q : Value} {s' : SS} (hb : Below w.heap.size w w1) (h : Taken w1 base B p ev q s' w') : Taken w base B p ev q s' w' := by
  obtain ⟨ev', q', a, b, c⟩ := h
  refine ⟨ev', q', a, (Off.of_new hb _).trans b (fun g _ h => h), fun g hg => ?_⟩
  rcases c g hg with h | h
  · exact .inl h
  · exact .inr (Nat.le_trans hb.size h)
set_option maxHeartbeats 1000000 in
set_option maxRecDepth 100000 in
theorem takeUsed_any {w : World} {base B : Nat} {p : Value} {s : SS} {ev q : Value} (h : StAt w base B p s ev q) (r : ByteArray) (hs : r.size ≤ 1000000000) :
    Calls Tryz.prog 35 #[.pointer (some ⟨B, 1, none⟩), .string r] w fun e w' => (r.size = 2 → e = .returned (.bool true) ∧ Taken w base B p ev q { s with used := max s.used (valL r.data.toList) } w') ∧ (r.size ≠ 2 → e = .returned (.bool false) ∧ Below w.heap.size w w') := by
  have HR := Lib.hid (fun w => read_any r w)
  have HN := Lib.hid (fun (W : World) (b : Nat) (h : RdO W b (some r)) => short_o W b (some r) h (by show r.size ≤ _; omega))
  have HE := Lib.hid (fun (W : World) (b : Nat) (h : RdO W b (numS 2 (some r)).2) => end_o W b _ h)
  rw [two_end] at HE
  have hn := two_lt (some r)
  have HV := Lib.hid (two_val r)
  have R0 := Lib.hid (rd_new r w)
  have hu := h.used
  have hlt := h.blk.lt
  generalize hm : (numS 2 (some r)).1 = m at *
  generalize (numS 2 (some r)).2 = st2 at *
  have H := Lib.hid h
  clear h hm
  go_enter Tryz.func35, Tryz.ntmps35
  go_wp2_with fail
  refine (HR.out _).mono ?_
  rintro e w1 ⟨rfl, rfl⟩
  go_wp2_with fail
  refine (HN.out _ _ R0.out).mono ?_
  rintro e w2 ⟨rfl, r2, g2⟩
  have b2 : Below w.heap.size w w2 := ⟨g2.os, g2.tape, g2.output, by have := g2.size; simp at this; omega, fun g hg => (g2.block g (by simp; omega) (by simp; omega)).trans (heap_alloc_old w _ hg)⟩
  have h2 := H.out.keep (w' := w2) (fun g hg => b2.block g (H.out.row_lt hg))
  have c3 : w2.cell? ⟨B, 3, none⟩ = some (.int .i64 (s.used : Int)) := h2.blk.cell 3
  have f3 := h2.blk.frozen 3
  have H2 := Lib.hid h2
  have B2 := Lib.hid b2
  clear g2 b2 h2
  go_wp2_with fail
  refine (HE.out _ _ r2).mono ?_
  rintro e w3 ⟨rfl, rfl⟩
  by_cases hz : r.size = 2
  · rw [decide_eq_true hz]
    have hv := HV.out hz
    subst hv
    by_cases hmx : s.used ≤ valL r.data.toList
    · have e1 : max s.used (valL r.data.toList) = valL r.data.toList := by omega
      have hmi : max (s.used : Int) (valL r.data.toList : Int) = (valL r.data.toList : Int) := by omega
      have HT := Lib.hid (H2.out.use (max s.used (valL r.data.toList)) (by omega))
      rw [e1] at HT
      generalize hm9 : valL r.data.toList = m at *
      have HM := Lib.hid hm9
      clear hm9
      go_wp2
      go_ret
      exact ⟨fun _ => ⟨rfl, by rw [HM.out, e1]; exact Taken.below B2.out HT.out⟩, fun h => absurd hz h⟩
    · have e1 : max s.used (valL r.data.toList) = s.used := by omega
      have hmi : max (s.used : Int) (valL r.data.toList : Int) = (s.used : Int) := by omega
      have HT := Lib.hid (H2.out.use (max s.used (valL r.data.toList)) (by omega))
      rw [e1] at HT
      generalize hm9 : valL r.data.toList = m at *
      have HM := Lib.hid hm9
      clear hm9
      go_wp2
      go_ret
      exact ⟨fun _ => ⟨rfl, by rw [HM.out, e1]; exact Taken.below B2.out HT.out⟩, fun h => absurd hz h⟩
  · rw [decide_eq_false hz]
    go_wp2
    go_ret
    exact ⟨fun h => absurd h hz, fun _ => ⟨rfl, B2.out⟩⟩
theorem qr_some {w : World} {t : TypeId} {base : Nat} {v : Value} {l : List ByteArray} (h : QR w t base v l) (h0 : l ≠ []) : ∃ g off cap, v = .slice (some ⟨g, off, none⟩) l.length cap ∧ w.cell? ⟨g, off, none⟩ = some (.string (l.getD 0 ByteArray.empty)) ∧ w.frozen? ⟨g, off, none⟩ = false ∧ l.length ≤ cap ∧ cap ≤ maxLen := by
  rcases h with ⟨_, rfl⟩ | ⟨g, off, cap, cur, rfl, _, hh, _, h2, h3, h4⟩
  · exact absurd rfl h0
  · refine ⟨g, off, cap, rfl, ?_, by simp [World.frozen?, hh], h2, h3⟩
    have := h4 0 (List.length_pos_iff.2 h0)
    simp [World.cell?, hh] at this ⊢
    exact this
set_option maxHeartbeats 1000000 in
set_option maxRecDepth 100000 in
theorem takeDone_yes {w : World} {base B : Nat} {p : Value} {s : SS} {ev q : Value} (h : StAt w base B p s ev q) (h0 : s.queue ≠ []) :
    Calls Tryz.prog 36 #[.pointer (some ⟨B, 1, none⟩), .string ⟨#[]⟩] w fun e w' => e = .returned (.bool true) ∧ Taken w base B p ev q { s with queue := s.queue.tail } w' := by
  obtain ⟨g, off, cap, rfl, k1, k2, hc, hm⟩ := qr_some h.qs h0
  have c4 : w.cell? ⟨B, 4, none⟩ = some (.slice (some ⟨g, off, none⟩) s.queue.length cap) := h.blk.cell 4
  have f4 := h.blk.frozen 4
  have hne : g ≠ B := fun e => h.q_ne (by simp [Value.ownBlock, e])
  have HT := Lib.hid (h.done h0 (.string ⟨#[]⟩))
  have hl : 0 < s.queue.length := List.length_pos_iff.2 h0
  have c4' : (w.setCell ⟨g, off, none⟩ (.string ⟨#[]⟩)).cell? ⟨B, 4, none⟩ = some (.slice (some ⟨g, off, none⟩) s.queue.length cap) := (World.cell?_of_block (a := ⟨B, 4, none⟩) (Below.heap_setCell w _ _ B (fun e => hne e.symm))).trans c4
  have f4' : (w.setCell ⟨g, off, none⟩ (.string ⟨#[]⟩)).frozen? ⟨B, 4, none⟩ = false := (World.frozen?_of_block (a := ⟨B, 4, none⟩) (Below.heap_setCell w _ _ B (fun e => hne e.symm))).trans f4
  unfold maxLen at hm
  generalize s.queue.length = n at *
  have H0 := Lib.hid h0
  clear h h0
  have hl2 : (0 : Int) < (n : Int) := by omega
  have hl3 : ¬ ((n : Int) = 0) := by omega
  by_cases hcap : 1 < cap
  · rw [if_pos hcap] at HT
    go_enter Tryz.func36, Tryz.ntmps36
    go_wp2
    go_ret
    exact ⟨rfl, HT.out⟩
  · rw [if_neg hcap] at HT
    obtain rfl : cap = 1 := by omega
    obtain rfl : n = 1 := by omega
    go_enter Tryz.func36, Tryz.ntmps36
    go_wp2
    go_ret
    exact ⟨rfl, HT.out⟩
set_option maxHeartbeats 1000000 in
set_option maxRecDepth 100000 in
theorem takeDone_no {w : World} {base B : Nat} {p : Value} {s : SS} {ev q : Value} (h : StAt w base B p s ev q) (r : ByteArray) (hr : ¬ (r.size = 0 ∧ s.queue ≠ [])) :
    Calls Tryz.prog 36 #[.pointer (some ⟨B, 1, none⟩), .string r] w fun e w' => e = .returned (.bool false) ∧ w' = w := by
  by_cases hz : r.size = 0
  · have hq : s.queue = [] := Classical.byContradiction fun h => hr ⟨hz, h⟩
    have c4 : w.cell? ⟨B, 4, none⟩ = some q := h.blk.cell 4
    obtain ⟨a, cap, rfl, hcap, hcm, _⟩ := h.qs.form
    rw [hq] at c4
    have e0 := name_none r hz
    clear h hr
    go_enter Tryz.func36, Tryz.ntmps36
    go_wp2
    go_ret
    exact ⟨rfl, rfl⟩
  · have e0 := name_some r (by omega)
    clear h hr
    go_enter Tryz.func36, Tryz.ntmps36
    go_wp2
    go_ret
    exact ⟨rfl, rfl⟩
end Go.Proofs.YtffnkomnldgcaaaGreatDoor
