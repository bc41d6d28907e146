/-
  The document's answers for layer 11: list, Same; the law's 'as'.
-/
import Derived.Test.YtffnkomnldgcaaaGreatDoorSo4
namespace Go.Proofs.YtffnkomnldgcaaaGreatDoor
open Go.RowKit Go.Pal Go.Pal.Dk Go.Pal.Fr Go.Pal.Cr

/-- A state as a value. -/
structure Vs where
  a1 : Option Addr
  c1 : Nat
  a2 : Option Addr
  c2 : Nat
def vsV (s : SS) (v : Vs) : Value := .agg #[.string s.room, .slice v.a1 s.events.length v.c1, .int .i64 (s.used : Int), .slice v.a2 s.queue.length v.c2]
structure VsAt (w : World) (s : SS) (v : Vs) : Prop where
  r1 : StrRow w v.a1 s.events
  r2 : StrRow w v.a2 s.queue
  n1 : s.events.length ≤ v.c1
  n2 : s.queue.length ≤ v.c2
theorem VsAt.below {w w' : World} {s : SS} {v : Vs} (h : VsAt w s v) (hb : Below w.heap.size w w') : VsAt w' s v := ⟨h.r1.below hb, h.r2.below hb, h.n1, h.n2⟩
theorem VsAt.drewN {w : World} {s : SS} {v : Vs} (h : VsAt w s v) (n : Nat) : VsAt (w.drewN n) s v := ⟨h.r1, h.r2, h.n1, h.n2⟩
theorem Told.vs {w w' : World} {s : SS} {e : Ending} (h : Told w s e w') : ∃ v, e = .returned (vsV s v) ∧ VsAt w' s v ∧ Below w.heap.size w w' := by
  obtain ⟨v1, v2, rfl, q1, q2, _, hb⟩ := h
  obtain ⟨a1, c1, rfl, h1, _, r1⟩ := q1.form
  obtain ⟨a2, c2, rfl, h2, _, r2⟩ := q2.form
  exact ⟨⟨a1, c1, a2, c2⟩, rfl, ⟨r1, r2, h1, h2⟩, hb⟩

theorem sBeqT (a b : ByteArray) : (a.toList == b.toList) = true ↔ a = b := by
  rw [ByteArray.toList_eq, ByteArray.toList_eq, beq_iff_eq]
  constructor
  · intro h
    rw [ByteArray.ext_iff]
    exact Array.toList_inj.1 h
  · intro h
    rw [h]
theorem sBeqF {a b : ByteArray} (h : a ≠ b) : (a.toList == b.toList) = false := by
  cases e : a.toList == b.toList
  · rfl
  · exact absurd ((sBeqT a b).1 e) h
theorem strs_take {l1 l2 : List ByteArray} {k : Nat} (h1 : k < l1.length) (h2 : k < l2.length) (ht : l1.take k = l2.take k) (he : l1.getD k ByteArray.empty = l2.getD k ByteArray.empty) : l1.take (k + 1) = l2.take (k + 1) := by
  rw [List.take_succ_eq_append_getElem h1, List.take_succ_eq_append_getElem h2, ht]
  rw [List.getD_eq_getElem?_getD, List.getElem?_eq_getElem h1, List.getD_eq_getElem?_getD, List.getElem?_eq_getElem h2] at he
  have he' : l1[k] = l2[k] := he
  rw [he']
set_option maxHeartbeats 1000000 in
set_option maxRecDepth 100000 in
theorem list_any (w : World) (a1 a2 : Option Addr) (c1 c2 : Nat) (l1 l2 : List ByteArray) (h1 : StrRow w a1 l1) (h2 : StrRow w a2 l2) (n1 : l1.length ≤ 1000000) (_ : l2.length ≤ 1000000) (_ : l1.length ≤ c1) (_ : l2.length ≤ c2) :
    Calls Tryz.prog 29 #[.slice a1 l1.length c1, .slice a2 l2.length c2] w fun e w' => e = .returned (.bool (decide (l1 = l2))) ∧ ∃ m, w' = w.drewN m := by
  by_cases hne : l1.length = l2.length
  · have H1 := Lib.hid h1
    have H2 := Lib.hid h2
    have HN := Lib.hid hne
    have hne3 : (l1.length : Int) = (l2.length : Int) := by omega
    clear h1 h2 hne
    go_enter Tryz.func29, Tryz.ntmps29
    go_wp2
    have HN3 := Lib.hid hne3
    clear hne3
    go_loopw [5] (fun i wr => ∃ (k m : Nat), k ≤ l1.length ∧ i = .int .i64 (k : Int) ∧ l1.take k = l2.take k ∧ wr = w.drewN m) (fun i _ => l1.length - (intOf i).toNat)
    case atStart => exact ⟨0, 0, Nat.zero_le _, rfl, rfl, rfl⟩
    case round =>
      obtain ⟨k, m, hk, rfl, htk, rfl⟩ := hrel
      have HTK := Lib.hid htk
      clear htk
      by_cases hlt : k < l1.length
      · have hlt2 : k < l2.length := by have := HN.out; omega
        obtain ⟨b1, o1, rfl, x1⟩ := str_cell H1.out k hlt
        obtain ⟨b2, o2, rfl, x2⟩ := str_cell H2.out k hlt2
        have HEQ := Lib.hid (fun he => strs_take hlt hlt2 HTK.out he)
        have HNE := Lib.hid (show ¬ l1.getD k ByteArray.empty = l2.getD k ByteArray.empty → ¬ l1 = l2 from fun h e => h (by rw [e]))
        generalize l1.getD k ByteArray.empty = X at *
        generalize l2.getD k ByteArray.empty = Y at *
        have x1' : (w.drewN m).cell? ⟨b1, o1 + k, none⟩ = some (.string X) := x1
        have x2' : (w.drewN m).cell? ⟨b2, o2 + k, none⟩ = some (.string Y) := x2
        have i1 : (k : Int) < (l1.length : Int) := by omega
        have i2 : (k : Int) < (l2.length : Int) := by omega
        have i0 : (0 : Int) ≤ (k : Int) := by omega
        go_wp2
        go_quiet (fail)
        by_cases hxy : X = Y
        · subst hxy
          have HE2 := Lib.hid (HEQ.out rfl)
          rw [show (!(X.toList == X.toList)) = false by simp]
          go_wp2
          go_roundw
          case rel => exact ⟨k + 1, _, hlt, by go_num, HE2.out, rfl⟩
          case measure => simp [intOf]; omega
        · have HD := Lib.hid (HNE.out hxy)
          rw [show (!(X.toList == Y.toList)) = true by rw [sBeqF hxy]; rfl]
          go_wp2
          go_ret
          exact ⟨by rw [decide_eq_false HD.out]; rfl, _, by rw [World.drewN_drewN]⟩
      · obtain rfl : k = l1.length := by omega
        have HD := Lib.hid (show l1 = l2 by have h := HTK.out; rw [List.take_length, HN.out, List.take_length] at h; exact h)
        go_wp2
        go_ret
        exact ⟨by rw [decide_eq_true HD.out]; rfl, m, rfl⟩
  · have hd : ¬ l1 = l2 := fun e => hne (by rw [e])
    rw [decide_eq_false hd]
    have hne3 : ¬ ((l1.length : Int) = (l2.length : Int)) := by omega
    clear h1 h2 hd
    go_enter Tryz.func29, Tryz.ntmps29
    go_wp2
    go_ret
    exact ⟨rfl, 0, rfl⟩

/-- Whether two states are the same. -/
def sameB (s t : SS) : Bool := decide (s.room = t.room ∧ s.used = t.used ∧ s.events = t.events ∧ s.queue = t.queue)
theorem sameB_self (s : SS) : sameB s s = true := by simp [sameB]
theorem sameB_iff (s t : SS) : sameB s t = true ↔ s = t := by
  unfold sameB
  rw [decide_eq_true_eq]
  constructor
  · rintro ⟨h1, h2, h3, h4⟩
    cases s; cases t; simp_all
  · rintro rfl; simp
set_option linter.unusedVariables false in
set_option maxHeartbeats 1000000 in
set_option maxRecDepth 100000 in
theorem same_so (w : World) (s t : SS) (v u : Vs) (hs : VsAt w s v) (ht : VsAt w t u) (zs : SzS s 1000000) (zt : SzS t 1000000) :
    Calls Tryz.prog 15 #[vsV s v, vsV t u] w fun e w' => e = .returned (.bool (sameB s t)) ∧ Below w.heap.size w w' := by
  obtain ⟨w2, hw2⟩ : ∃ W, W = (w.alloc (.cells #[.string s.room, .slice v.a1 s.events.length v.c1, .int .i64 (s.used : Int), .slice v.a2 s.queue.length v.c2] 36)).alloc (.cells #[.string t.room, .slice u.a1 t.events.length u.c1, .int .i64 (t.used : Int), .slice u.a2 t.queue.length u.c2] 36) := ⟨_, rfl⟩
  have b2 : Below w.heap.size w w2 := by rw [hw2]; exact ((Below.refl _ _).alloc (Nat.le_refl _) _).alloc (by simp) _
  have hA : Blk w2 w.heap.size 36 [.string s.room, .slice v.a1 s.events.length v.c1, .int .i64 (s.used : Int), .slice v.a2 s.queue.length v.c2] := by rw [hw2]; exact (Blk.new w _ _).alloc _
  have hB : Blk w2 (w.heap.size + 1) 36 [.string t.room, .slice u.a1 t.events.length u.c1, .int .i64 (t.used : Int), .slice u.a2 t.queue.length u.c2] := by rw [hw2]; exact Blk.new' _ _ _ (by simp)
  have p0 : w2.cell? ⟨w.heap.size, 0, none⟩ = some (.string s.room) := hA.cell 0
  have p1 : w2.cell? ⟨w.heap.size, 1, none⟩ = some (.slice v.a1 s.events.length v.c1) := hA.cell 1
  have p2 : w2.cell? ⟨w.heap.size, 2, none⟩ = some (.int .i64 (s.used : Int)) := hA.cell 2
  have p3 : w2.cell? ⟨w.heap.size, 3, none⟩ = some (.slice v.a2 s.queue.length v.c2) := hA.cell 3
  have q0 : w2.cell? ⟨w.heap.size + 1, 0, none⟩ = some (.string t.room) := hB.cell 0
  have q1 : w2.cell? ⟨w.heap.size + 1, 1, none⟩ = some (.slice u.a1 t.events.length u.c1) := hB.cell 1
  have q2 : w2.cell? ⟨w.heap.size + 1, 2, none⟩ = some (.int .i64 (t.used : Int)) := hB.cell 2
  have q3 : w2.cell? ⟨w.heap.size + 1, 3, none⟩ = some (.slice u.a2 t.queue.length u.c2) := hB.cell 3
  have hs2 := hs.below b2
  have ht2 := ht.below b2
  have HL1 := Lib.hid (fun m => list_any (w2.drewN m) v.a1 u.a1 v.c1 u.c1 s.events t.events (hs2.drewN m).r1 (ht2.drewN m).r1 zs.el zt.el hs.n1 ht.n1)
  have HL2 := Lib.hid (fun m => list_any (w2.drewN m) v.a2 u.a2 v.c2 u.c2 s.queue t.queue (hs2.drewN m).r2 (ht2.drewN m).r2 zs.ql zt.ql hs.n2 ht.n2)
  have B2 := Lib.hid b2
  have fin : ∀ m, Below w.heap.size w (w2.drewN m) := fun m => ⟨b2.os, b2.tape, b2.output, b2.size, b2.block⟩
  have FIN := Lib.hid fin
  have hsB : sameB s t = decide (s.room = t.room ∧ s.used = t.used ∧ s.events = t.events ∧ s.queue = t.queue) := rfl
  unfold vsV
  clear hs ht hs2 ht2 hA hB b2 fin zs zt
  obtain ⟨sr, se, su, sq⟩ := s
  obtain ⟨tr, te, tu, tq⟩ := t
  dsimp only at *
  by_cases h1 : sr = tr
  · subst h1
    by_cases h2 : su = tu
    · subst h2
      by_cases h3 : se = te
      · have e1 : decide (se = te) = true := decide_eq_true h3
        have e0 : sameB ⟨sr, se, su, sq⟩ ⟨sr, te, su, tq⟩ = decide (sq = tq) := by rw [hsB]; exact decide_eq_decide.2 ⟨fun h => h.2.2.2, fun h => ⟨rfl, rfl, h3, h⟩⟩
        rw [e0]
        rw [e1] at HL1
        clear h3 e1 e0 hsB
        generalize decide (sq = tq) = bq at *
        go_enter Tryz.func15, Tryz.ntmps15
        go_wp2_with fail
        rw [← hw2]
        clear hw2
        go_wp2_with fail
        refine (HL1.out 0).mono ?_
        rintro e w3 ⟨rfl, m3, rfl⟩
        go_wp2_with fail
        refine (HL2.out m3).mono ?_
        rintro e w4 ⟨rfl, m4, rfl⟩
        go_wp2
        go_ret
        exact ⟨rfl, by have := FIN.out (m3 + m4); simpa [World.drewN_drewN] using this⟩
      · have e1 : decide (se = te) = false := decide_eq_false h3
        have e0 : sameB ⟨sr, se, su, sq⟩ ⟨sr, te, su, tq⟩ = false := by rw [hsB]; exact decide_eq_false (fun h => h3 h.2.2.1)
        rw [e0]
        rw [e1] at HL1
        clear h3 e1 e0 hsB
        go_enter Tryz.func15, Tryz.ntmps15
        go_wp2_with fail
        rw [← hw2]
        clear hw2
        go_wp2_with fail
        refine (HL1.out 0).mono ?_
        rintro e w3 ⟨rfl, m3, rfl⟩
        go_wp2
        go_ret
        exact ⟨rfl, by have := FIN.out m3; simpa [World.drewN_drewN] using this⟩
    · have r2 : ¬ ((su : Int) = (tu : Int)) := by omega
      have e0 : sameB ⟨sr, se, su, sq⟩ ⟨sr, te, tu, tq⟩ = false := by rw [hsB]; exact decide_eq_false (fun h => h2 h.2.1)
      rw [e0]
      have HF0 := Lib.hid (show Below w.heap.size w ((w.alloc (.cells #[.string sr, .slice v.a1 se.length v.c1, .int .i64 (su : Int), .slice v.a2 sq.length v.c2] 36)).alloc (.cells #[.string sr, .slice u.a1 te.length u.c1, .int .i64 (tu : Int), .slice u.a2 tq.length u.c2] 36)) by rw [← hw2]; exact FIN.out 0)
      clear h2 e0 hsB hw2
      go_enter Tryz.func15, Tryz.ntmps15
      go_wp2
      go_ret
      exact ⟨rfl, HF0.out⟩
  · have r1 : (sr.toList == tr.toList) = false := sBeqF h1
    have r1' : ¬ sr.toList = tr.toList := by simpa using r1
    have e0 : sameB ⟨sr, se, su, sq⟩ ⟨tr, te, tu, tq⟩ = false := by rw [hsB]; exact decide_eq_false (fun h => h1 h.1)
    rw [e0]
    have HF0 := Lib.hid (show Below w.heap.size w ((w.alloc (.cells #[.string sr, .slice v.a1 se.length v.c1, .int .i64 (su : Int), .slice v.a2 sq.length v.c2] 36)).alloc (.cells #[.string tr, .slice u.a1 te.length u.c1, .int .i64 (tu : Int), .slice u.a2 tq.length u.c2] 36)) by rw [← hw2]; exact FIN.out 0)
    clear h1 e0 hsB hw2
    go_enter Tryz.func15, Tryz.ntmps15
    go_wp2
    go_ret
    exact ⟨rfl, HF0.out⟩
set_option maxHeartbeats 1000000 in
set_option maxRecDepth 100000 in
theorem as_any (w : World) (s : SS) (v : Vs) :
    Calls Tryz.prog 12 #[vsV s v] w fun e w' => e = .returned (vsV s v) ∧ Below w.heap.size w w' := by
  unfold vsV
  have HB := Lib.hid (show ∀ (o1 o2 : Obj), Below w.heap.size w ((w.alloc o1).alloc o2) from fun o1 o2 => ((Below.refl _ _).alloc (Nat.le_refl _) _).alloc (by simp) _)
  go_enter Tryz.func12, Tryz.ntmps12
  go_wp2
  refine bodyPost_ret (by simp [results, Tryz.results12, go_sem]; try rfl) rfl ?_
  exact ⟨rfl, HB.out _ _⟩
end Go.Proofs.YtffnkomnldgcaaaGreatDoor
