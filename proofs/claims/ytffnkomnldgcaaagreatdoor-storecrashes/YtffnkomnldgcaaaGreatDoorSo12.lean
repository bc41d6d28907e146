/-
  The document's answers for layer 11: Of, walked.
-/
import Derived.Test.YtffnkomnldgcaaaGreatDoorSo11
namespace Go.Proofs.YtffnkomnldgcaaaGreatDoor
open Go.RowKit Go.Pal Go.Pal.Dk Go.Pal.Fr Go.Pal.Cr

def zeroS : Value := .agg #[.string ⟨#[]⟩, .slice none 0 0, .int .i64 0, .slice none 0 0]
/-- What Of answers. -/
def OfP (w : World) (l : List ByteArray) (e : Ending) (w' : World) : Prop :=
  Below w.heap.size w w' ∧ (∀ s, ofR ss0 l = some s → SzS s l.length ∧ ∃ v, e = .returned (.tuple #[vsV s v, .bool true]) ∧ VsAt w' s v ∧ (∀ g, (Value.slice v.a1 s.events.length v.c1).ownBlock = some g → w.heap.size ≤ g) ∧ ∀ g, (Value.slice v.a2 s.queue.length v.c2).ownBlock = some g → w.heap.size ≤ g) ∧ (ofR ss0 l = none → e = .returned (.tuple #[zeroS, .bool false]))
theorem byte_at (r : ByteArray) (h : 0 < r.size) (c : UInt8) (hc : r.extract 0 1 = oneB c) : r[0]'h = c := by
  have h1 : (r.extract 0 1).data.toList = [c] := by rw [hc]; rfl
  have h2 : (r.extract 0 1).data.toList = r.data.toList.take 1 := by simp [ByteArray.data_extract]
  rw [h2] at h1
  have h3 : r.data.toList[0]? = some c := by
    have := congrArg (fun l => l[0]?) h1
    simpa using this
  have h4 : r.data.toList[0]? = some (r[0]'h) := by
    rw [Array.getElem?_toList]
    exact Array.getElem?_eq_getElem h
  rw [h4] at h3
  exact Option.some.inj h3

set_option linter.unusedVariables false in
set_option maxHeartbeats 2000000 in
set_option maxRecDepth 100000 in
theorem of_any (w : World) (a : Option Addr) (cap : Nat) (l : List ByteArray) (hrow : StrRow w a l) (hn : l.length ≤ 1000) (hsz : ∀ x ∈ l, x.size ≤ 1000000) :
    Calls Tryz.prog 9 #[.slice a l.length cap] w (OfP w l) := by
  obtain ⟨i0, I0, Z0, Z1, Z2⟩ : ∃ i : TypeInfo, Tryz.prog.info? 9 = some i ∧ i.zero = some (.string ⟨#[]⟩) ∧ i.size = 1 ∧ i.bytes = 16 := ⟨_, rfl, rfl, rfl, rfl⟩
  have HI := Lib.hid I0
  have HZ0 := Lib.hid Z0
  have HZ1 := Lib.hid Z1
  have HZ2 := Lib.hid Z2
  clear I0 Z0 Z1 Z2
  have HROW := Lib.hid hrow
  have HSZ := Lib.hid hsz
  have HST := Lib.hid (show Ro w l 0 ss0 (.slice none 0 0) (.slice none 0 0) ((w.alloc (.cells #[.string ⟨#[]⟩, .slice none 0 0, .int .i64 0, .slice none 0 0] 36)).alloc (.cells #[.string ⟨#[]⟩, .slice none 0 0, .int .i64 0, .slice none 0 0] 36)) from
    ⟨rfl, sz0, by decide, ⟨Blk.new' _ _ [.string ⟨#[]⟩, .slice none 0 0, .int .i64 0, .slice none 0 0] (by simp), QR.nil _ _ _, QR.nil _ _ _, fun g hg => (by cases hg)⟩, (Blk.new w _ [.string ⟨#[]⟩, .slice none 0 0, .int .i64 0, .slice none 0 0]).alloc _, ((Below.refl _ _).alloc (Nat.le_refl _) _).alloc (by simp) _⟩)
  clear hrow hsz
  go_enter Tryz.func9, Tryz.ntmps9
  go_wp2
  go_loopw [5] (fun i wr => ∃ (k : Nat) (s : SS) (ev q : Value), k ≤ l.length ∧ i = .int .i64 (k : Int) ∧ Ro w l k s ev q wr) (fun i _ => l.length - (intOf i).toNat)
  case atStart => exact ⟨0, _, _, _, Nat.zero_le _, rfl, HST.out⟩
  case round =>
    obtain ⟨k, s, ev, q, hk, rfl, hR⟩ := hrel
    by_cases hlt : k < l.length
    · obtain ⟨b, off, rfl, ck⟩ := str_cell (HROW.out.below hR.bel) k hlt
      have hsr : (l.getD k ByteArray.empty).size ≤ 1000000 := HSZ.out _ (by rw [List.getD_eq_getElem?_getD, List.getElem?_eq_getElem hlt]; exact List.getElem_mem hlt)
      have HNX := Lib.hid (fun s' h => And.intro (ofR_step (s' := s') hlt hR.of h) (hR.sz.take hsr h))
      have HBAD := Lib.hid (show takeR s (l.getD k ByteArray.empty) = none → ofR ss0 l = none from fun h => by
        refine ofR_none_take (k := k + 1) ?_
        rw [ofR_take l ss0 k hlt, hR.of]
        show takeR s l[k] = none
        rw [← h, List.getD_eq_getElem?_getD, List.getElem?_eq_getElem hlt]; rfl)
      have i1 : (k : Int) < (l.length : Int) := by omega
      have i0' : (0 : Int) ≤ (k : Int) := by omega
      have H := Lib.hid hR
      have hel := hR.sz.el
      have hql := hR.sz.ql
      have us := hR.us
      have res := hR.res
      have x0 : wr.cell? ⟨w.heap.size, 0, none⟩ = some (.string ⟨#[]⟩) := res.cell 0
      have x1 : wr.cell? ⟨w.heap.size, 1, none⟩ = some (.slice none 0 0) := res.cell 1
      have x2 : wr.cell? ⟨w.heap.size, 2, none⟩ = some (.int .i64 0) := res.cell 2
      have x3 : wr.cell? ⟨w.heap.size, 3, none⟩ = some (.slice none 0 0) := res.cell 3
      have y0 := res.frozen 0
      have y1 := res.frozen 1
      have y2 := res.frozen 2
      have y3 := res.frozen 3
      clear res hR
      generalize l.getD k ByteArray.empty = r at *
      by_cases h0 : r.size = 0
      · have HN := Lib.hid (HBAD.out (by unfold takeR; rw [if_pos h0]))
        have hz : (r.size : Int) = 0 := by omega
        have P4 := Lib.hid (put4 (H.out.res) (.string ⟨#[]⟩) (.slice none 0 0) (.int .i64 0) (.slice none 0 0))
        go_wp2
        obtain ⟨s0, s1, s2, s3⟩ := P4.out
        refine bodyPost_ret (by simp [results, Tryz.results9, go_sem, s0, s1, s2, s3]; try rfl) rfl ?_
        exact ⟨below4 H.out.bel (Nat.le_refl _) _ _ _ _, fun s hs => (by rw [HN.out] at hs; cases hs), fun _ => rfl⟩
      · have hz : ¬ ((r.size : Int) = 0) := by omega
        obtain ⟨c, hrr, hA, hB, hl, hrs⟩ := rec_split r h0
        clear hrr
        have hpos : 0 < r.size := by omega
        have hby := byte_at r hpos c hA
        have hposi : (0 : Int) < (r.size : Int) := by omega
        have h1i : (1 : Int) ≤ (r.size : Int) := by omega
        clear hA
        go_wp2
        go_quiet (fail)
        by_cases n1 : c = 82
        · subst n1
          have hl : letN r = 82 := hl
          by_cases hz2 : (restB r).size = 32
          · have hT : takeR s r = some { s with room := restB r } := by unfold takeR; rw [if_neg h0, if_pos hl, if_pos hz2]
            have HO := Lib.hid (HNX.out _ hT)
            have hzi : ((restB r).size : Int) = 32 := by omega
            clear hT
            have zc := H.out.rf.blk.cell 0
            simp only [List.getElem?_cons_zero] at zc
            have zf := H.out.rf.blk.frozen 0
            generalize hrest : restB r = rest at *
            go_wp2
            go_roundw
            case rel => exact ⟨k + 1, _, _, _, hlt, by go_num, H.out.room HO.out.1 HO.out.2⟩
            case measure => simp [intOf]; omega
          · have HN := Lib.hid (HBAD.out (by unfold takeR; rw [if_neg h0, if_pos hl, if_neg hz2]))
            have hzi : ¬ (((restB r).size : Int) = 32) := by omega
            generalize hrest : restB r = rest at *
            have P4 := Lib.hid (put4 (Blk.drewN H.out.res nq) (.string ⟨#[]⟩) (.slice none 0 0) (.int .i64 0) (.slice none 0 0))
            go_wp2
            obtain ⟨s0, s1, s2, s3⟩ := P4.out
            refine bodyPost_ret (by simp [results, Tryz.results9, go_sem, s0, s1, s2, s3]; try rfl) rfl ?_
            exact ⟨below4 (H.out.like nq).bel (Nat.le_refl _) _ _ _ _, fun s hs => (by rw [HN.out] at hs; cases hs), fun _ => rfl⟩
        by_cases n2 : c = 69
        · subst n2
          have hl : letN r = 69 := hl
          have hT : takeR s r = some { s with events := s.events ++ [restB r] } := by unfold takeR; rw [if_neg h0, if_neg (by omega), if_pos hl]
          have HO := Lib.hid (HNX.out _ hT)
          clear hT
          have zc := H.out.rf.blk.cell 1
          simp only [List.getElem?_cons_zero, List.getElem?_cons_succ] at zc
          have zf := H.out.rf.blk.frozen 1
          have QA := Lib.hid ((H.out.like nq).rf.evs.keep (w' := (wr.drewN nq).alloc (.cells #[.string (restB r)] 9)) (fun g hg => heap_alloc_old (wr.drewN nq) _ ((H.out.like nq).rf.evs.lt hg).1))
          have HN1 := Lib.hid (one_new (wr.drewN nq) 9 (restB r))
          have HB2 := Lib.hid (show w.heap.size + 2 ≤ ((wr.drewN nq).alloc (.cells #[.string (restB r)] 9)).heap.size by have := H.out.lt; simp; omega)
          have HL2 := Lib.hid (show (s.events).length ≤ 1000000000 by omega)
          generalize hrest : restB r = rest at *
          go_wp2_with (at_builtin; refine wpList_append_q _ rfl _ _ 34 rfl (w.heap.size + 2) 9 i0 Tryz.underlying34 HI.out HZ0.out HZ1.out HZ2.out _ (s.events) rfl QA.out ⟨(wr.drewN nq).heap.size, 0, none⟩ 1 rest rfl HN1.out HL2.out HB2.out ?_)
          intro v2 w2 q2 g2 a2
          obtain ⟨a9, cap9, rfl, _, _, _⟩ := q2.form
          have HT2 := Lib.hid ((H.out.like nq).event q2 g2 a2 HO.out.1 HO.out.2)
          have hB2 : Blk w2 (w.heap.size + 1) 36 [.string s.room, ev, .int .i64 (s.used : Int), q] := (Blk.alloc (Blk.drewN H.out.rf.blk nq) _).grown g2 (fun e => H.out.rf.ev_ne e.symm)
          have ck2 := hB2.cell 1
          simp only [List.getElem?_cons_zero, List.getElem?_cons_succ] at ck2
          have fk2 := hB2.frozen 1
          clear hB2 q2 g2 a2 zc zf x0 x1 x2 x3 y0 y1 y2 y3
          go_wp2
          go_roundw
          case rel =>
            have h9 := HT2.out
            rw [List.length_append] at h9
            exact ⟨k + 1, _, _, _, hlt, by go_num, h9⟩
          case measure => simp [intOf]; omega
        by_cases n3 : c = 75
        · subst n3
          have hl : letN r = 75 := hl
          by_cases hz2 : (restB r).size = 2
          · have hT : takeR s r = some { s with used := max s.used (valL (restB r).data.toList) } := by unfold takeR; rw [if_neg h0, if_neg (by omega), if_neg (by omega), if_pos hl, if_pos hz2]
            have HO := Lib.hid (HNX.out _ hT)
            have hzi : ((restB r).size : Int) = 2 := by omega
            have HV := Lib.hid (fun W => (value_any (restB r) (by omega) W).mono (fun e w' (h : e = .returned (.int .i64 (valL (restB r).data.toList)) ∧ W = w') => (show e = .returned (.int .i64 (valL (restB r).data.toList)) ∧ w' = W from ⟨h.1, h.2.symm⟩)))
            have hvl : valL (restB r).data.toList ≤ 65535 := by rw [← two_val _ hz2]; exact two_lt _
            clear hT
            have zc := H.out.rf.blk.cell 2
            simp only [List.getElem?_cons_zero, List.getElem?_cons_succ] at zc
            have zf := H.out.rf.blk.frozen 2
            generalize hrest : restB r = rest at *
            generalize hval : valL rest.data.toList = m at *
            have H9 := Lib.hid (H.out.like nq)
            have zc9 : (wr.drewN nq).cell? ⟨w.heap.size + 1, 2, none⟩ = some (.int .i64 (s.used : Int)) := zc
            have zf9 : (wr.drewN nq).frozen? ⟨w.heap.size + 1, 2, none⟩ = false := zf
            clear zc zf x0 x1 x2 x3 y0 y1 y2 y3 ck H HBAD HNX
            generalize wr.drewN nq = w9 at *
            by_cases hgt : s.used < m
            · have em : max s.used m = m := by omega
              rw [em] at HO
              have hgi : (s.used : Int) < (m : Int) := by omega
              clear hval
              go_wp2
              go_quiet (first | (go_at_call 20; exact Calls.quiet_of_same (HV.out _)))
              go_wp2_with (go_at_call 20; refine (HV.out _).mono ?_; rintro e w5 ⟨rfl, rfl⟩)
              go_roundw
              case rel => exact ⟨k + 1, _, _, _, hlt, by go_num, Ro.use H9.out hvl HO.out.1 HO.out.2⟩
              case measure => simp [intOf]; omega
            · have em : max s.used m = s.used := by omega
              rw [em] at HO
              have hgi : ¬ ((s.used : Int) < (m : Int)) := by omega
              clear hval
              go_wp2
              go_quiet (first | (go_at_call 20; exact Calls.quiet_of_same (HV.out _)))
              go_wp2
              go_roundw
              case rel => exact ⟨k + 1, _, _, _, hlt, by go_num, Ro.same (H9.out.like _) rfl HO.out.1 HO.out.2⟩
              case measure => simp [intOf]; omega
          · have HN := Lib.hid (HBAD.out (by unfold takeR; rw [if_neg h0, if_neg (by omega), if_neg (by omega), if_pos hl, if_neg hz2]))
            have hzi : ¬ (((restB r).size : Int) = 2) := by omega
            generalize hrest : restB r = rest at *
            have P4 := Lib.hid (put4 (Blk.drewN H.out.res nq) (.string ⟨#[]⟩) (.slice none 0 0) (.int .i64 0) (.slice none 0 0))
            go_wp2
            obtain ⟨s0, s1, s2, s3⟩ := P4.out
            refine bodyPost_ret (by simp [results, Tryz.results9, go_sem, s0, s1, s2, s3]; try rfl) rfl ?_
            exact ⟨below4 (H.out.like nq).bel (Nat.le_refl _) _ _ _ _, fun s hs => (by rw [HN.out] at hs; cases hs), fun _ => rfl⟩
        by_cases n4 : c = 81
        · subst n4
          have hl : letN r = 81 := hl
          have hT : takeR s r = some { s with queue := s.queue ++ [restB r] } := by unfold takeR; rw [if_neg h0, if_neg (by omega), if_neg (by omega), if_neg (by omega), if_pos hl]
          have HO := Lib.hid (HNX.out _ hT)
          clear hT
          have zc := H.out.rf.blk.cell 3
          simp only [List.getElem?_cons_zero, List.getElem?_cons_succ] at zc
          have zf := H.out.rf.blk.frozen 3
          have QA := Lib.hid ((H.out.like nq).rf.qs.keep (w' := (wr.drewN nq).alloc (.cells #[.string (restB r)] 9)) (fun g hg => heap_alloc_old (wr.drewN nq) _ ((H.out.like nq).rf.qs.lt hg).1))
          have HN1 := Lib.hid (one_new (wr.drewN nq) 9 (restB r))
          have HB2 := Lib.hid (show w.heap.size + 2 ≤ ((wr.drewN nq).alloc (.cells #[.string (restB r)] 9)).heap.size by have := H.out.lt; simp; omega)
          have HL2 := Lib.hid (show (s.queue).length ≤ 1000000000 by omega)
          generalize hrest : restB r = rest at *
          go_wp2_with (at_builtin; refine wpList_append_q _ rfl _ _ 34 rfl (w.heap.size + 2) 9 i0 Tryz.underlying34 HI.out HZ0.out HZ1.out HZ2.out _ (s.queue) rfl QA.out ⟨(wr.drewN nq).heap.size, 0, none⟩ 1 rest rfl HN1.out HL2.out HB2.out ?_)
          intro v2 w2 q2 g2 a2
          obtain ⟨a9, cap9, rfl, _, _, _⟩ := q2.form
          have HT2 := Lib.hid ((H.out.like nq).wait q2 g2 a2 HO.out.1 HO.out.2)
          have hB2 : Blk w2 (w.heap.size + 1) 36 [.string s.room, ev, .int .i64 (s.used : Int), q] := (Blk.alloc (Blk.drewN H.out.rf.blk nq) _).grown g2 (fun e => H.out.rf.q_ne e.symm)
          have ck2 := hB2.cell 3
          simp only [List.getElem?_cons_zero, List.getElem?_cons_succ] at ck2
          have fk2 := hB2.frozen 3
          clear hB2 q2 g2 a2 zc zf x0 x1 x2 x3 y0 y1 y2 y3
          go_wp2
          go_roundw
          case rel =>
            have h9 := HT2.out
            rw [List.length_append] at h9
            exact ⟨k + 1, _, _, _, hlt, by go_num, h9⟩
          case measure => simp [intOf]; omega
        by_cases n5 : c = 68
        · subst n5
          have hl : letN r = 68 := hl
          by_cases hz2 : (restB r).size = 0
          · have hzi : ((restB r).size : Int) = 0 := by omega
            have zc := H.out.rf.blk.cell 3
            simp only [List.getElem?_cons_zero, List.getElem?_cons_succ] at zc
            have zf := H.out.rf.blk.frozen 3
            by_cases hq0 : s.queue = []
            · have HN := Lib.hid (HBAD.out (by unfold takeR; rw [if_neg h0, if_neg (by omega), if_neg (by omega), if_neg (by omega), if_neg (by omega), if_pos hl, if_neg (fun h => h.2 hq0)]))
              obtain ⟨qa, qc, rfl, hq1, hq2, _⟩ := H.out.rf.qs.form
              have hq3 : ((s.queue.length : Nat) : Int) = 0 := by rw [hq0]; rfl
              clear hq0
              generalize hrest : restB r = rest at *
              have P4 := Lib.hid (put4 (Blk.drewN H.out.res nq) (.string ⟨#[]⟩) (.slice none 0 0) (.int .i64 0) (.slice none 0 0))
              go_wp2
              obtain ⟨s0, s1, s2, s3⟩ := P4.out
              refine bodyPost_ret (by simp [results, Tryz.results9, go_sem, s0, s1, s2, s3]; try rfl) rfl ?_
              exact ⟨below4 (H.out.like nq).bel (Nat.le_refl _) _ _ _ _, fun s hs => (by rw [HN.out] at hs; cases hs), fun _ => rfl⟩
            · have hT : takeR s r = some { s with queue := s.queue.tail } := by unfold takeR; rw [if_neg h0, if_neg (by omega), if_neg (by omega), if_neg (by omega), if_neg (by omega), if_pos hl, if_pos ⟨hz2, hq0⟩]
              have HO := Lib.hid (HNX.out _ hT)
              obtain ⟨g, off2, cap2, rfl, _, _, hc2, hm2⟩ := qr_some H.out.rf.qs hq0
              have hlq : 0 < s.queue.length := List.length_pos_iff.2 hq0
              have hlq2 : (0 : Int) < (s.queue.length : Int) := by omega
              have HQ0 := Lib.hid hq0
              unfold maxLen at hm2
              clear hT hq0
              generalize hrest : restB r = rest at *
              have HDN := Lib.hid (H.out.done (n := nq) HQ0.out HO.out.1 HO.out.2)
              by_cases hcap2 : 1 < cap2
              · rw [if_pos hcap2] at HDN
                go_wp2
                go_roundw
                case rel => exact ⟨k + 1, _, _, _, hlt, by go_num, HDN.out⟩
                case measure => simp [intOf]; omega
              · rw [if_neg hcap2] at HDN
                have hc1 : cap2 = 1 := by omega
                have hn1 : s.queue.length = 1 := by omega
                rw [hc1, hn1] at HDN
                subst hc1
                rw [hn1] at zc
                go_wp2
                go_roundw
                case rel => exact ⟨k + 1, _, _, _, hlt, by go_num, HDN.out⟩
                case measure => simp [intOf]; omega
          · have HN := Lib.hid (HBAD.out (by unfold takeR; rw [if_neg h0, if_neg (by omega), if_neg (by omega), if_neg (by omega), if_neg (by omega), if_pos hl, if_neg (fun h => hz2 h.1)]))
            have hzi : ¬ (((restB r).size : Int) = 0) := by omega
            generalize hrest : restB r = rest at *
            have P4 := Lib.hid (put4 (Blk.drewN H.out.res nq) (.string ⟨#[]⟩) (.slice none 0 0) (.int .i64 0) (.slice none 0 0))
            go_wp2
            obtain ⟨s0, s1, s2, s3⟩ := P4.out
            refine bodyPost_ret (by simp [results, Tryz.results9, go_sem, s0, s1, s2, s3]; try rfl) rfl ?_
            exact ⟨below4 (H.out.like nq).bel (Nat.le_refl _) _ _ _ _, fun s hs => (by rw [HN.out] at hs; cases hs), fun _ => rfl⟩
        have nn : ∀ x : UInt8, ¬ c = x → ¬ letN r = x.toNat := fun x hx he => hx (by rw [hl] at he; exact UInt8.toNat_inj.1 he)
        have HN := Lib.hid (HBAD.out (by
          unfold takeR
          rw [if_neg h0, if_neg (show ¬ letN r = 82 from nn 82 n1), if_neg (show ¬ letN r = 69 from nn 69 n2), if_neg (show ¬ letN r = 75 from nn 75 n3), if_neg (show ¬ letN r = 81 from nn 81 n4), if_neg (show ¬ letN r = 68 from nn 68 n5)]))
        have m1 : ¬ ((c.toNat : Int) = 82) := fun h => n1 (UInt8.toNat_inj.1 (show c.toNat = 82 by omega))
        have m2 : ¬ ((c.toNat : Int) = 69) := fun h => n2 (UInt8.toNat_inj.1 (show c.toNat = 69 by omega))
        have m3 : ¬ ((c.toNat : Int) = 75) := fun h => n3 (UInt8.toNat_inj.1 (show c.toNat = 75 by omega))
        have m4 : ¬ ((c.toNat : Int) = 81) := fun h => n4 (UInt8.toNat_inj.1 (show c.toNat = 81 by omega))
        have m5 : ¬ ((c.toNat : Int) = 68) := fun h => n5 (UInt8.toNat_inj.1 (show c.toNat = 68 by omega))
        clear nn n1 n2 n3 n4 n5
        generalize hrest : restB r = rest at *
        have P4 := Lib.hid (put4 (Blk.drewN H.out.res nq) (.string ⟨#[]⟩) (.slice none 0 0) (.int .i64 0) (.slice none 0 0))
        go_wp2
        obtain ⟨s0, s1, s2, s3⟩ := P4.out
        refine bodyPost_ret (by simp [results, Tryz.results9, go_sem, s0, s1, s2, s3]; try rfl) rfl ?_
        exact ⟨below4 (H.out.like nq).bel (Nat.le_refl _) _ _ _ _, fun s hs => (by rw [HN.out] at hs; cases hs), fun _ => rfl⟩
    · obtain rfl : k = l.length := by omega
      have H := Lib.hid hR
      have p := hR.rf.blk
      obtain ⟨ea, ec, rfl, he1, _, _⟩ := hR.rf.evs.form
      obtain ⟨qa, qc, rfl, hq1, _, _⟩ := hR.rf.qs.form
      have p0 : wr.cell? ⟨w.heap.size + 1, 0, none⟩ = some (.string s.room) := p.cell 0
      have p1 : wr.cell? ⟨w.heap.size + 1, 1, none⟩ = some (.slice ea s.events.length ec) := p.cell 1
      have p2 : wr.cell? ⟨w.heap.size + 1, 2, none⟩ = some (.int .i64 (s.used : Int)) := p.cell 2
      have p3 : wr.cell? ⟨w.heap.size + 1, 3, none⟩ = some (.slice qa s.queue.length qc) := p.cell 3
      have res := hR.res
      have x0 : wr.cell? ⟨w.heap.size, 0, none⟩ = some (.string ⟨#[]⟩) := res.cell 0
      have x1 : wr.cell? ⟨w.heap.size, 1, none⟩ = some (.slice none 0 0) := res.cell 1
      have x2 : wr.cell? ⟨w.heap.size, 2, none⟩ = some (.int .i64 0) := res.cell 2
      have x3 : wr.cell? ⟨w.heap.size, 3, none⟩ = some (.slice none 0 0) := res.cell 3
      have y0 := res.frozen 0
      have y1 := res.frozen 1
      have y2 := res.frozen 2
      have y3 := res.frozen 3
      have P4 := Lib.hid (put4 hR.res (.string s.room) (.slice ea s.events.length ec) (.int .i64 (s.used : Int)) (.slice qa s.queue.length qc))
      clear p res hR
      go_wp2
      obtain ⟨s0, s1, s2, s3⟩ := P4.out
      refine bodyPost_ret (by simp [results, Tryz.results9, go_sem, s0, s1, s2, s3]; try rfl) rfl ?_
      have h1 := H.out.of
      rw [List.take_length] at h1
      refine ⟨below4 H.out.bel (Nat.le_refl _) _ _ _ _, fun s2 hs => ?_, fun hs => (by rw [h1] at hs; cases hs)⟩
      rw [h1] at hs
      obtain rfl := Option.some.inj hs
      have hkeep : ∀ (v : Value) (l : List ByteArray), QR wr 9 (w.heap.size + 2) v l → QR ((((wr.setCell ⟨w.heap.size, 0, none⟩ (.string s.room)).setCell ⟨w.heap.size, 1, none⟩ (.slice ea s.events.length ec)).setCell ⟨w.heap.size, 2, none⟩ (.int .i64 (s.used : Int))).setCell ⟨w.heap.size, 3, none⟩ (.slice qa s.queue.length qc)) 9 (w.heap.size + 2) v l := fun v l hq => hq.keep (fun g hg => heap4 wr _ g (by have := (hq.lt hg).2.1; omega) _ _ _ _)
      obtain ⟨_, _, e1, m1, _, r1⟩ := (hkeep _ _ H.out.rf.evs).form
      cases e1
      obtain ⟨_, _, e2, m2, _, r2⟩ := (hkeep _ _ H.out.rf.qs).form
      cases e2
      exact ⟨H.out.sz, ⟨ea, ec, qa, qc⟩, rfl, ⟨r1, r2, m1, m2⟩, fun g hg => by have := (H.out.rf.evs.lt hg).2.1; omega, fun g hg => by have := (H.out.rf.qs.lt hg).2.1; omega⟩
end Go.Proofs.YtffnkomnldgcaaaGreatDoor
