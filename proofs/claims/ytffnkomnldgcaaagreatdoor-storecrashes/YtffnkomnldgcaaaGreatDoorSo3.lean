/-
  Contracts of package store: take.
-/
import Derived.Test.YtffnkomnldgcaaaGreatDoorSo2
namespace Go.Proofs.YtffnkomnldgcaaaGreatDoor
open Go.RowKit Go.Pal Go.Pal.Dk Go.Pal.Fr Go.Pal.Cr

/-- A record: its letter, and the rest. -/
theorem rec_split (r : ByteArray) (h : r.size ≠ 0) : ∃ c : UInt8, r = oneB c ++ restB r ∧ r.extract 0 1 = oneB c ∧ r.extract 1 r.size = restB r ∧ letN r = c.toNat ∧ (restB r).size = r.size - 1 := by
  have hz : (r.extract 0 1).size = 1 := by rw [ByteArray.size_extract]; omega
  have h1 : r.extract 0 1 ++ r.extract 1 r.size = r := ext_app r 1 (by omega)
  obtain ⟨c, hc⟩ : ∃ c, (r.extract 0 1).data.toList = [c] := by
    have : (r.extract 0 1).data.toList.length = 1 := by rw [Array.length_toList]; exact hz
    exact List.length_eq_one_iff.1 this
  have hc2 : r.extract 0 1 = oneB c := data_inj (by rw [hc]; rfl)
  refine ⟨c, by rw [← hc2]; exact h1.symm, hc2, rfl, ?_, ?_⟩
  · conv => lhs; rw [← h1, hc2]
    exact (one_rest c _).2.1
  · unfold restB; rw [ByteArray.size_extract]; omega
def TakeP (w : World) (base B : Nat) (p : Value) (s : SS) (ev q : Value) (r : ByteArray) (e : Ending) (w' : World) : Prop :=
  (∀ s', takeR s r = some s' → e = .returned (.bool true) ∧ Taken w base B p ev q s' w') ∧ (takeR s r = none → e = .returned (.bool false) ∧ Below w.heap.size w w')
theorem TakeP.yes {w : World} {base B : Nat} {p : Value} {s s' : SS} {ev q : Value} {r : ByteArray} {w' : World} (h : takeR s r = some s') (ht : Taken w base B p ev q s' w') : TakeP w base B p s ev q r (.returned (.bool true)) w' :=
  ⟨fun s2 h2 => by rw [h] at h2; obtain rfl := Option.some.inj h2; exact ⟨rfl, ht⟩, fun h2 => by rw [h] at h2; cases h2⟩
theorem TakeP.no {w : World} {base B : Nat} {p : Value} {s : SS} {ev q : Value} {r : ByteArray} {w' : World} (h : takeR s r = none) (hb : Below w.heap.size w w') : TakeP w base B p s ev q r (.returned (.bool false)) w' :=
  ⟨fun s2 h2 => (by rw [h] at h2; cases h2), fun _ => ⟨rfl, hb⟩⟩

theorem Taken.drewN {w w' : World} {base B : Nat} {p ev q : Value} {s' : SS} {n : Nat} (h : Taken (w.drewN n) base B p ev q s' w') : Taken w base B p ev q s' w' := by
  obtain ⟨ev', q', a, b, c⟩ := h
  exact ⟨ev', q', a, ⟨b.os, b.tape, b.output, b.size, b.block⟩, c⟩
theorem StAt.drewN {w : World} {base B : Nat} {p : Value} {s : SS} {ev q : Value} (h : StAt w base B p s ev q) (n : Nat) : StAt (w.drewN n) base B p s ev q := h.keep (fun _ _ => rfl)
theorem one_list (c : UInt8) : (oneB c).toList = [c] := by
  have : (oneB c).data.toList = [c] := rfl
  rw [← this]
  simp [oneB]

set_option linter.unusedVariables false in
set_option maxHeartbeats 1000000 in
set_option maxRecDepth 100000 in
theorem take_R {w : World} {base B : Nat} {p : Value} {s : SS} {ev q : Value} (h : StAt w base B p s ev q) (r : ByteArray) (hs : r.size ≤ 1000000) (h0 : r.size ≠ 0) (hle : s.events.length ≤ 1000000) (hlq : s.queue.length ≤ 1000000) (hbase : base ≤ w.heap.size) (a : ByteArray) (hA : r.extract 0 1 = a) (ha : a.toList = [82]) (hl : letN r = 82) :
    Calls Tryz.prog 19 #[.pointer (some ⟨B, 1, none⟩), .string r] w fun e w' => TakeP w base B p s ev q r e w' := by
  have e0 := name_some r (by omega)
  have e1 : r.toList.isEmpty = false := by simpa using e0
  have hsz : (restB r).size ≤ 1000000 := by unfold restB; rw [ByteArray.size_extract]; omega
  have hB : r.extract 1 r.size = restB r := rfl
  have hlen : (1 : Int) ≤ (r.size : Int) := by omega
  have HTT := Lib.hid (show takeR s r = if (restB r).size = 32 then some { s with room := restB r } else none by unfold takeR; rw [if_neg h0, if_pos hl])
  have H := Lib.hid h
  clear hl
  clear h
  generalize hR : restB r = rest at *
  have HR := Lib.hid hR
  clear hR
  go_enter Tryz.func19, Tryz.ntmps19
  go_wp2
  go_quiet (fail)
  go_wp2_with fail
  by_cases hz : rest.size = 32
  · refine (takeRoom_yes (H.out.drewN _) rest hz).mono ?_
    rintro e w1 ⟨rfl, ht⟩
    have HK := Lib.hid ht
    clear ht
    go_wp2
    go_ret
    exact TakeP.yes (by rw [HTT.out, if_pos hz]) HK.out.drewN
  · refine (takeRoom_no _ B rest hz).mono ?_
    rintro e w1 ⟨rfl, rfl⟩
    go_wp2
    go_ret
    exact TakeP.no (by rw [HTT.out, if_neg hz]) ⟨rfl, rfl, rfl, Nat.le_refl _, fun _ _ => rfl⟩

set_option linter.unusedVariables false in
set_option maxHeartbeats 1000000 in
set_option maxRecDepth 100000 in
theorem take_K {w : World} {base B : Nat} {p : Value} {s : SS} {ev q : Value} (h : StAt w base B p s ev q) (r : ByteArray) (hs : r.size ≤ 1000000) (h0 : r.size ≠ 0) (hle : s.events.length ≤ 1000000) (hlq : s.queue.length ≤ 1000000) (hbase : base ≤ w.heap.size) (a : ByteArray) (hA : r.extract 0 1 = a) (ha : a.toList = [75]) (hl : letN r = 75) :
    Calls Tryz.prog 19 #[.pointer (some ⟨B, 1, none⟩), .string r] w fun e w' => TakeP w base B p s ev q r e w' := by
  have e0 := name_some r (by omega)
  have e1 : r.toList.isEmpty = false := by simpa using e0
  have hsz : (restB r).size ≤ 1000000 := by unfold restB; rw [ByteArray.size_extract]; omega
  have hB : r.extract 1 r.size = restB r := rfl
  have hlen : (1 : Int) ≤ (r.size : Int) := by omega
  have HTT := Lib.hid (show takeR s r = if (restB r).size = 2 then some { s with used := max s.used (valL (restB r).data.toList) } else none by unfold takeR; rw [if_neg h0, if_neg (by omega), if_neg (by omega), if_pos hl])
  have H := Lib.hid h
  clear hl
  clear h
  generalize hR : restB r = rest at *
  have HR := Lib.hid hR
  clear hR
  go_enter Tryz.func19, Tryz.ntmps19
  go_wp2
  go_quiet (fail)
  go_wp2_with fail
  refine (takeUsed_any (H.out.drewN _) rest (by omega)).mono ?_
  rintro e w1 ⟨h1, h2⟩
  by_cases hz : rest.size = 2
  · obtain ⟨rfl, ht⟩ := h1 hz
    have HK := Lib.hid ht
    clear ht h1 h2
    go_wp2
    go_ret
    exact TakeP.yes (by rw [HTT.out, if_pos hz]) HK.out.drewN
  · obtain ⟨rfl, hb⟩ := h2 hz
    have HK := Lib.hid hb
    clear hb h1 h2
    go_wp2
    go_ret
    exact TakeP.no (by rw [HTT.out, if_neg hz]) ⟨HK.out.os, HK.out.tape, HK.out.output, HK.out.size, HK.out.block⟩

set_option linter.unusedVariables false in
set_option maxHeartbeats 1000000 in
set_option maxRecDepth 100000 in
theorem take_D {w : World} {base B : Nat} {p : Value} {s : SS} {ev q : Value} (h : StAt w base B p s ev q) (r : ByteArray) (hs : r.size ≤ 1000000) (h0 : r.size ≠ 0) (hle : s.events.length ≤ 1000000) (hlq : s.queue.length ≤ 1000000) (hbase : base ≤ w.heap.size) (a : ByteArray) (hA : r.extract 0 1 = a) (ha : a.toList = [68]) (hl : letN r = 68) :
    Calls Tryz.prog 19 #[.pointer (some ⟨B, 1, none⟩), .string r] w fun e w' => TakeP w base B p s ev q r e w' := by
  have e0 := name_some r (by omega)
  have e1 : r.toList.isEmpty = false := by simpa using e0
  have hsz : (restB r).size ≤ 1000000 := by unfold restB; rw [ByteArray.size_extract]; omega
  have hB : r.extract 1 r.size = restB r := rfl
  have hlen : (1 : Int) ≤ (r.size : Int) := by omega
  have HTT := Lib.hid (show takeR s r = if (restB r).size = 0 ∧ s.queue ≠ [] then some { s with queue := s.queue.tail } else none by unfold takeR; rw [if_neg h0, if_neg (by omega), if_neg (by omega), if_neg (by omega), if_neg (by omega), if_pos hl])
  have H := Lib.hid h
  clear hl
  clear h
  generalize hR : restB r = rest at *
  have HR := Lib.hid hR
  clear hR
  go_enter Tryz.func19, Tryz.ntmps19
  go_wp2
  go_quiet (fail)
  go_wp2_with fail
  by_cases hz : rest.size = 0 ∧ s.queue ≠ []
  · have hre : rest = ⟨#[]⟩ := by
      have := name_none rest hz.1
      exact data_inj (List.eq_nil_of_length_eq_zero (by rw [Array.length_toList]; exact hz.1))
    rw [hre]
    refine (takeDone_yes (H.out.drewN _) hz.2).mono ?_
    rintro e w1 ⟨rfl, ht⟩
    have HK := Lib.hid ht
    clear ht
    go_wp2
    go_ret
    exact TakeP.yes (by rw [HTT.out, if_pos hz]) HK.out.drewN
  · refine (takeDone_no (H.out.drewN _) rest hz).mono ?_
    rintro e w1 ⟨rfl, rfl⟩
    go_wp2
    go_ret
    exact TakeP.no (by rw [HTT.out, if_neg hz]) ⟨rfl, rfl, rfl, Nat.le_refl _, fun _ _ => rfl⟩

set_option linter.unusedVariables false in
set_option maxHeartbeats 1000000 in
set_option maxRecDepth 100000 in
theorem take_E {w : World} {base B : Nat} {p : Value} {s : SS} {ev q : Value} (h : StAt w base B p s ev q) (r : ByteArray) (hs : r.size ≤ 1000000) (h0 : r.size ≠ 0) (hle : s.events.length ≤ 1000000) (hlq : s.queue.length ≤ 1000000) (hbase : base ≤ w.heap.size) (a : ByteArray) (hA : r.extract 0 1 = a) (ha : a.toList = [69]) (hl : letN r = 69) :
    Calls Tryz.prog 19 #[.pointer (some ⟨B, 1, none⟩), .string r] w fun e w' => TakeP w base B p s ev q r e w' := by
  have e0 := name_some r (by omega)
  have e1 : r.toList.isEmpty = false := by simpa using e0
  have hsz : (restB r).size ≤ 1000000 := by unfold restB; rw [ByteArray.size_extract]; omega
  have hB : r.extract 1 r.size = restB r := rfl
  have hlen : (1 : Int) ≤ (r.size : Int) := by omega
  have HTT := Lib.hid (show takeR s r = some { s with events := s.events ++ [restB r] } by unfold takeR; rw [if_neg h0, if_neg (by omega), if_pos hl])
  have H := Lib.hid h
  clear hl
  obtain ⟨i0, I0, Z0, Z1, Z2⟩ : ∃ i : TypeInfo, Tryz.prog.info? 9 = some i ∧ i.zero = some (.string ⟨#[]⟩) ∧ i.size = 1 ∧ i.bytes = 16 := ⟨_, rfl, rfl, rfl, rfl⟩
  have HI := Lib.hid I0
  have HZ0 := Lib.hid Z0
  have HZ1 := Lib.hid Z1
  have HZ2 := Lib.hid Z2
  clear I0 Z0 Z1 Z2
  clear h
  generalize hR : restB r = rest at *
  have HR := Lib.hid hR
  clear hR
  go_enter Tryz.func19, Tryz.ntmps19
  go_wp2
  go_quiet (fail)
  have ck := (Blk.drewN H.out.blk nq).cell 2
  simp only [List.getElem?_cons_zero, List.getElem?_cons_succ] at ck
  have QA := Lib.hid ((H.out.drewN nq).evs.keep (w' := (w.drewN nq).alloc (.cells #[.string rest] 9)) (fun g hg => heap_alloc_old (w.drewN nq) _ ((H.out.drewN nq).evs.lt hg).1))
  have HN1 := Lib.hid (one_new (w.drewN nq) 9 rest)
  have HB2 := Lib.hid (show base ≤ ((w.drewN nq).alloc (.cells #[.string rest] 9)).heap.size by simp; omega)
  have HL2 := Lib.hid (show (s.events).length ≤ 1000000000 by omega)
  have fz := (Blk.drewN H.out.blk nq).frozen 2
  have hltB : B < (w.drewN nq).heap.size := (Blk.drewN H.out.blk nq).lt
  go_wp2_with (at_builtin; refine wpList_append_q _ rfl _ _ 34 rfl base 9 i0 Tryz.underlying34 HI.out HZ0.out HZ1.out HZ2.out _ (s.events) rfl QA.out ⟨(w.drewN nq).heap.size, 0, none⟩ 1 rest rfl HN1.out HL2.out HB2.out ?_)
  intro v2 w2 q2 g2 a2
  obtain ⟨a9, cap9, rfl, _, _, _⟩ := q2.form
  have HT2 := Lib.hid ((H.out.drewN nq).event rest _ q2 g2 a2)
  have hB2 : Blk w2 B 59 [p, .string s.room, ev, .int .i64 (s.used : Int), q] := (Blk.alloc (Blk.drewN H.out.blk nq) _).grown g2 (fun e => H.out.ev_ne e.symm)
  have ck2 := hB2.cell 2
  simp only [List.getElem?_cons_zero, List.getElem?_cons_succ] at ck2
  have fk2 := hB2.frozen 2
  clear hB2 q2 g2 a2 ck fz
  go_wp2
  go_ret
  have h9 := HT2.out.drewN
  rw [List.length_append] at h9
  exact TakeP.yes HTT.out h9

set_option linter.unusedVariables false in
set_option maxHeartbeats 1000000 in
set_option maxRecDepth 100000 in
theorem take_Q {w : World} {base B : Nat} {p : Value} {s : SS} {ev q : Value} (h : StAt w base B p s ev q) (r : ByteArray) (hs : r.size ≤ 1000000) (h0 : r.size ≠ 0) (hle : s.events.length ≤ 1000000) (hlq : s.queue.length ≤ 1000000) (hbase : base ≤ w.heap.size) (a : ByteArray) (hA : r.extract 0 1 = a) (ha : a.toList = [81]) (hl : letN r = 81) :
    Calls Tryz.prog 19 #[.pointer (some ⟨B, 1, none⟩), .string r] w fun e w' => TakeP w base B p s ev q r e w' := by
  have e0 := name_some r (by omega)
  have e1 : r.toList.isEmpty = false := by simpa using e0
  have hsz : (restB r).size ≤ 1000000 := by unfold restB; rw [ByteArray.size_extract]; omega
  have hB : r.extract 1 r.size = restB r := rfl
  have hlen : (1 : Int) ≤ (r.size : Int) := by omega
  have HTT := Lib.hid (show takeR s r = some { s with queue := s.queue ++ [restB r] } by unfold takeR; rw [if_neg h0, if_neg (by omega), if_neg (by omega), if_neg (by omega), if_pos hl])
  have H := Lib.hid h
  clear hl
  obtain ⟨i0, I0, Z0, Z1, Z2⟩ : ∃ i : TypeInfo, Tryz.prog.info? 9 = some i ∧ i.zero = some (.string ⟨#[]⟩) ∧ i.size = 1 ∧ i.bytes = 16 := ⟨_, rfl, rfl, rfl, rfl⟩
  have HI := Lib.hid I0
  have HZ0 := Lib.hid Z0
  have HZ1 := Lib.hid Z1
  have HZ2 := Lib.hid Z2
  clear I0 Z0 Z1 Z2
  clear h
  generalize hR : restB r = rest at *
  have HR := Lib.hid hR
  clear hR
  go_enter Tryz.func19, Tryz.ntmps19
  go_wp2
  go_quiet (fail)
  have ck := (Blk.drewN H.out.blk nq).cell 4
  simp only [List.getElem?_cons_zero, List.getElem?_cons_succ] at ck
  have QA := Lib.hid ((H.out.drewN nq).qs.keep (w' := (w.drewN nq).alloc (.cells #[.string rest] 9)) (fun g hg => heap_alloc_old (w.drewN nq) _ ((H.out.drewN nq).qs.lt hg).1))
  have HN1 := Lib.hid (one_new (w.drewN nq) 9 rest)
  have HB2 := Lib.hid (show base ≤ ((w.drewN nq).alloc (.cells #[.string rest] 9)).heap.size by simp; omega)
  have HL2 := Lib.hid (show (s.queue).length ≤ 1000000000 by omega)
  have fz := (Blk.drewN H.out.blk nq).frozen 4
  have hltB : B < (w.drewN nq).heap.size := (Blk.drewN H.out.blk nq).lt
  go_wp2_with (at_builtin; refine wpList_append_q _ rfl _ _ 34 rfl base 9 i0 Tryz.underlying34 HI.out HZ0.out HZ1.out HZ2.out _ (s.queue) rfl QA.out ⟨(w.drewN nq).heap.size, 0, none⟩ 1 rest rfl HN1.out HL2.out HB2.out ?_)
  intro v2 w2 q2 g2 a2
  obtain ⟨a9, cap9, rfl, _, _, _⟩ := q2.form
  have HT2 := Lib.hid ((H.out.drewN nq).wait rest _ q2 g2 a2)
  have hB2 : Blk w2 B 59 [p, .string s.room, ev, .int .i64 (s.used : Int), q] := (Blk.alloc (Blk.drewN H.out.blk nq) _).grown g2 (fun e => H.out.q_ne e.symm)
  have ck2 := hB2.cell 4
  simp only [List.getElem?_cons_zero, List.getElem?_cons_succ] at ck2
  have fk2 := hB2.frozen 4
  clear hB2 q2 g2 a2 ck fz
  go_wp2
  go_ret
  have h9 := HT2.out.drewN
  rw [List.length_append] at h9
  exact TakeP.yes HTT.out h9

set_option linter.unusedVariables false in
set_option maxHeartbeats 1000000 in
set_option maxRecDepth 100000 in
theorem take_other {w : World} {base B : Nat} {p : Value} {s : SS} {ev q : Value} (h : StAt w base B p s ev q) (r : ByteArray) (hs : r.size ≤ 1000000) (h0 : r.size ≠ 0) (hle : s.events.length ≤ 1000000) (hlq : s.queue.length ≤ 1000000) (hbase : base ≤ w.heap.size) (a : ByteArray) (hA : r.extract 0 1 = a) (c : UInt8) (ha : a.toList = [c]) (hl : letN r = c.toNat) (n1 : ¬ c = 82) (n2 : ¬ c = 69) (n3 : ¬ c = 75) (n4 : ¬ c = 81) (n5 : ¬ c = 68) :
    Calls Tryz.prog 19 #[.pointer (some ⟨B, 1, none⟩), .string r] w fun e w' => TakeP w base B p s ev q r e w' := by
  have e0 := name_some r (by omega)
  have e1 : r.toList.isEmpty = false := by simpa using e0
  have hsz : (restB r).size ≤ 1000000 := by unfold restB; rw [ByteArray.size_extract]; omega
  have hB : r.extract 1 r.size = restB r := rfl
  have hlen : (1 : Int) ≤ (r.size : Int) := by omega
  have HTT := Lib.hid (show takeR s r = none by
    have nn : ∀ k : UInt8, ¬ c = k → ¬ letN r = k.toNat := fun k hk he => hk (by rw [hl] at he; exact UInt8.toNat_inj.1 he)
    unfold takeR
    rw [if_neg h0, if_neg (show ¬ letN r = 82 from nn 82 n1), if_neg (show ¬ letN r = 69 from nn 69 n2), if_neg (show ¬ letN r = 75 from nn 75 n3), if_neg (show ¬ letN r = 81 from nn 81 n4), if_neg (show ¬ letN r = 68 from nn 68 n5)])
  have m1 : (c == 82) = false := by simpa using n1
  have m2 : (c == 69) = false := by simpa using n2
  have m3 : (c == 75) = false := by simpa using n3
  have m4 : (c == 81) = false := by simpa using n4
  have m5 : (c == 68) = false := by simpa using n5
  clear hl
  clear h
  generalize hR : restB r = rest at *
  have HR := Lib.hid hR
  clear hR
  go_enter Tryz.func19, Tryz.ntmps19
  go_wp2
  go_quiet (fail)
  go_wp2
  go_ret
  exact TakeP.no HTT.out ⟨rfl, rfl, rfl, Nat.le_refl _, fun _ _ => rfl⟩

set_option maxHeartbeats 1000000 in
set_option maxRecDepth 100000 in
theorem stake_any {w : World} {base B : Nat} {p : Value} {s : SS} {ev q : Value} (h : StAt w base B p s ev q) (r : ByteArray) (hs : r.size ≤ 1000000) (hle : s.events.length ≤ 1000000) (hlq : s.queue.length ≤ 1000000) (hbase : base ≤ w.heap.size) :
    Calls Tryz.prog 19 #[.pointer (some ⟨B, 1, none⟩), .string r] w fun e w' => TakeP w base B p s ev q r e w' := by
  by_cases h0 : r.size = 0
  · have e0 := name_none r h0
    have HTT := Lib.hid (show takeR s r = none by unfold takeR; rw [if_pos h0])
    clear h
    go_enter Tryz.func19, Tryz.ntmps19
    go_wp2
    go_ret
    exact TakeP.no HTT.out (Below.refl _ _)
  · obtain ⟨c, _, hA, _, hl, _⟩ := rec_split r h0
    have ha := one_list c
    by_cases n1 : c = 82
    · subst n1; exact take_R h r hs h0 hle hlq hbase _ hA ha hl
    by_cases n2 : c = 69
    · subst n2; exact take_E h r hs h0 hle hlq hbase _ hA ha hl
    by_cases n3 : c = 75
    · subst n3; exact take_K h r hs h0 hle hlq hbase _ hA ha hl
    by_cases n4 : c = 81
    · subst n4; exact take_Q h r hs h0 hle hlq hbase _ hA ha hl
    by_cases n5 : c = 68
    · subst n5; exact take_D h r hs h0 hle hlq hbase _ hA ha hl
    exact take_other h r hs h0 hle hlq hbase _ hA c ha hl n1 n2 n3 n4 n5
end Go.Proofs.YtffnkomnldgcaaaGreatDoor
