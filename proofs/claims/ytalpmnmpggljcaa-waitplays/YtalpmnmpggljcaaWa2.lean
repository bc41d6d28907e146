/-
  Contracts of package wait: Put.
-/
import Derived.Test.YtalpmnmpggljcaaWa1
import Derived.Deep.QuietTactic
import Derived.BigQuiet
import Derived.Deep.RegionLaw
namespace Go.Proofs.Ytalpmnmpggljcaa
open Go.RowKit Go.Pal
set_option linter.unusedVariables false

theorem sRow_some {w : World} {a : Option Addr} {l : List ByteArray} (h : StrRow w a l) (h0 : 0 < l.length) : ∃ b off, a = some ⟨b, off, none⟩ ∧ b < w.heap.size ∧ ∀ i (hi : i < l.length), w.cell? ⟨b, off + i, none⟩ = some (.string l[i]) := by
  rcases h with h | ⟨b, off, rfl, hbl, hc⟩
  · rw [h] at h0; simp at h0
  · refine ⟨b, off, rfl, hbl, fun i hi => ?_⟩
    rw [hc i hi, List.getD_eq_getElem?_getD, List.getElem?_eq_getElem hi]; rfl
theorem MapF.add {P : Program} {k : TypeId} {w : World} {b : Nat} {l : List ByteArray} {s : ByteArray} (h : MapF P k w b (if (setL l s).isSome then l.length else l.length + 1) (putF (setL l) s unitV)) : MapF P k w b (addL l s).length (setL (addL l s)) := by
  rw [addL_length]
  exact h.same (fun x => putF_setL l s x)
/-- As w with one block more, but for draws. -/
structure Like (w : World) (o : Obj) (wx : World) : Prop where
  heap : wx.heap = (w.alloc o).heap
  os : wx.os = w.os
  tape : wx.tape = w.tape
  output : wx.output = w.output
theorem Like.old {w wx : World} {o : Obj} (h : Like w o wx) {g : Nat} (hg : g < w.heap.size) : wx.heap[g]? = w.heap[g]? := by rw [h.heap]; exact heap_alloc_old w o hg
theorem Like.new {w wx : World} {o : Obj} (h : Like w o wx) : wx.heap[w.heap.size]? = some o := by rw [h.heap]; exact heap_alloc_new w o
theorem Like.size {w wx : World} {o : Obj} (h : Like w o wx) : wx.heap.size = w.heap.size + 1 := by rw [h.heap]; simp
theorem Like.grown {w wx w8 : World} {o : Obj} (h : Like w o wx) {row : Option Nat} (hg : wx.grownBy w8 row) : w.grownBy w8 row :=
  ⟨hg.os.trans h.os, hg.tape.trans h.tape, hg.output.trans h.output, by have := hg.size; have := h.size; omega, fun g hlt hne => (hg.block g (by have := h.size; omega) hne).trans (h.old hlt)⟩
theorem below_drewN {n : Nat} {w w' : World} (h : Below n w w') (k : Nat) : Below n w (w'.drewN k) := ⟨h.os, h.tape, h.output, h.size, h.block⟩

set_option maxHeartbeats 400000 in
theorem wput_nil (w : World) (id text : ByteArray) (m : Value) : Calls Try.prog 37 #[.pointer none, .string id, .string text, m] w fun e w' => e = .returned (.int .i64 1) ∧ w' = w := by
  go_enter Try.func37, Try.ntmps37
  go_wp2
  go_ret
  exact ⟨rfl, rfl⟩
set_option maxHeartbeats 400000 in
theorem wput_arg (w : World) (W : Nat) (id text : ByteArray) (a : Option Addr) (cap : Nat) : Calls Try.prog 37 #[.pointer (some ⟨W, 0, none⟩), .string id, .string text, .slice a 0 cap] w fun e w' => e = .returned (.int .i64 1) ∧ w' = w := by
  go_enter Try.func37, Try.ntmps37
  go_wp2
  go_ret
  exact ⟨rfl, rfl⟩
set_option maxHeartbeats 400000 in
theorem wput_twice {w : World} {base W places : Nat} {v : Value} {ws : List Wt} (h : WaitAt w base W places v ws) (id text : ByteArray) (a : Option Addr) (n cap : Nat) (hn : 0 < n) (hf : (findW ws id).isSome = true) : Calls Try.prog 37 #[.pointer (some ⟨W, 0, none⟩), .string id, .string text, .slice a n cap] w fun e w' => e = .returned (.int .i64 11) ∧ Below w.heap.size w w' := by
  have HH := Lib.hid (whas_at h id)
  rw [hf] at HH
  have hn0 : ¬ n = 0 := by omega
  clear h hf
  go_enter Try.func37, Try.ntmps37
  go_wp2_with (go_at_call 44; refine HH.out.mono ?_; rintro e w' ⟨rfl, b1⟩)
  go_ret
  exact ⟨rfl, b1⟩
set_option maxHeartbeats 1000000 in
set_option maxRecDepth 100000 in
theorem wput_busy {w : World} {base W places : Nat} {v : Value} {ws : List Wt} (h : WaitAt w base W places v ws) (hp : places ≤ 300) (id text : ByteArray) (a : Option Addr) (n cap : Nat) (hn : 0 < n) (hf : (findW ws id).isSome = false) (hb : places ≤ ws.length) : Calls Try.prog 37 #[.pointer (some ⟨W, 0, none⟩), .string id, .string text, .slice a n cap] w fun e w' => e = .returned (.int .i64 8) ∧ Below w.heap.size w w' := by
  have HH := Lib.hid (whas_at h id)
  rw [hf] at HH
  have hn0 : ¬ n = 0 := by omega
  have HL := Lib.hid (fun (w1 w' : World) (hb : Below w.heap.size w w1) (he : w'.heap = w1.heap) => wlen_at ((h.below hb (Nat.le_refl _)).keep (w' := w') (fun g _ => by rw [he])))
  have HC := Lib.hid (fun (w' : World) (hb : Below w.heap.size w w') => (h.below hb (Nat.le_refl _)).blk.cell 0)
  simp only [List.getElem?_cons_zero] at HC
  clear h hf
  go_enter Try.func37, Try.ntmps37
  go_wp2_with (go_at_call 44; refine HH.out.mono ?_; rintro e w1 ⟨rfl, b1⟩)
  have hc0 := HC.out w1 b1
  have HB := Lib.hid b1
  clear b1
  go_quiet ((go_at_call 43; exact Calls.quiet_of_same (HL.out w1 _ HB.out (by rfl))))
  go_wp2
  go_ret
  exact ⟨rfl, below_drewN HB.out _⟩
set_option maxHeartbeats 1000000 in
set_option maxRecDepth 100000 in
theorem wput_ok {w : World} {base W places : Nat} {v : Value} {ws : List Wt} (h : WaitAt w base W places v ws) (hp : places ≤ 300) {id text : ByteArray} (hid : id.size ≤ 281474976710656) (htx : text.size ≤ 281474976710656) {a : Option Addr} {m : List ByteArray} {cap : Nat} (hm : StrRow w a m) (hn : 0 < m.length) (hm1 : m.length ≤ 1000000)
    (hms : ∀ s ∈ m, s.size ≤ 281474976710656) (hf : (findW ws id).isSome = false) (hb : ws.length < places) (hbase : base ≤ w.heap.size) : Calls Try.prog 37 #[.pointer (some ⟨W, 0, none⟩), .string id, .string text, .slice a m.length cap] w fun e w' => e = .returned (.int .i64 0) ∧ ∃ v' mb, WaitAt w' base W places v' (ws ++ [⟨id, text, mb, dedupL m⟩]) ∧ Off (fun g => g = W ∨ v.ownBlock = some g) w w' ∧ w.heap.size ≤ mb ∧ ∀ g, v'.ownBlock = some g → v.ownBlock = some g ∨ w.heap.size ≤ g := by
  have HH := Lib.hid (whas_at h id)
  rw [hf] at HH
  have hn0 : ¬ m.length = 0 := by omega
  have HL := Lib.hid (fun (w1 w' : World) (hb : Below w.heap.size w w1) (he : w'.heap = w1.heap) => wlen_at ((h.below hb (Nat.le_refl _)).keep (w' := w') (fun g _ => by rw [he])))
  have HC := Lib.hid (fun (w' : World) (hb : Below w.heap.size w w') => (h.below hb (Nat.le_refl _)).blk.cell 0)
  simp only [List.getElem?_cons_zero] at HC
  have HW := Lib.hid h
  have HM := Lib.hid hm
  have HMS := Lib.hid hms
  have HCL := Lib.hid (fun s w => clone_any s w)
  have hmm := @run_makeMap Try.prog
  clear h hf hm hms
  go_enter Try.func37, Try.ntmps37
  go_wp2_with (go_at_call 44; refine HH.out.mono ?_; rintro e w1 ⟨rfl, b1⟩)
  have hc0 := HC.out w1 b1
  have HB := Lib.hid b1
  clear b1
  go_quiet ((go_at_call 43; exact Calls.quiet_of_same (HL.out w1 _ HB.out (by rfl))))
  have HB2 := Lib.hid (below_drewN HB.out nq)
  generalize w1.drewN nq = w2 at *
  clear hc0 HB
  have hc2 := HC.out w2 HB2.out
  go_wp2_with (go_at_call 51; refine (HCL.out _ _ (by assumption)).mono ?_; rintro e w3 ⟨rfl, b3⟩; have HB2 := Lib.hid (HB2.out.trans (b3.mono HB2.out.size)); clear b3)
  obtain ⟨mb, hmb⟩ : ∃ mb, mb = w3.heap.size := ⟨_, rfl⟩
  obtain ⟨W0, hW0⟩ : ∃ W0, W0 = (w3.alloc (.map #[] 0)).alloc (.cells #[.string id, .string text, .map (some w3.heap.size)] 100) := ⟨_, rfl⟩
  have hs3 := HB2.out.size
  have M0 := Lib.hid (show MapF Try.prog 9 W0 mb 0 (setL []) by
    rw [hW0]
    exact ((MapF.made' w3 Try.prog 9 hmb).keep (heap_alloc_old _ _ (by simp; omega))).same (fun s => rfl))
  have X0 := Lib.hid (show Blk W0 (mb + 1) 100 [.string id, .string text, .map (some mb)] by
    rw [hW0, hmb]; exact Blk.new' _ _ [.string id, .string text, .map (some w3.heap.size)] (by simp))
  have B0 := Lib.hid (show Below w.heap.size w W0 by rw [hW0]; exact (HB2.out.alloc hs3 _).alloc (by simp; omega) _)
  rw [← hW0, ← hmb]
  have hmbw : w.heap.size ≤ mb := by omega
  clear hW0 hmb hs3 hc2 HL HC HH
  obtain ⟨sb, so, rfl, hsb, hsc⟩ := sRow_some HM.out hn
  have HSC := Lib.hid hsc
  clear hsc HM
  go_loopw [38] (fun j wr => ∃ k : Nat, k ≤ m.length ∧ j = .int .i64 k ∧ MapF Try.prog 9 wr mb (dedupL (m.take k)).length (setL (dedupL (m.take k))) ∧ Blk wr (mb + 1) 100 [.string id, .string text, .map (some mb)] ∧ Below w.heap.size w wr) (fun j _ => m.length - (intOf j).toNat)
  case atStart => exact ⟨0, Nat.zero_le _, rfl, M0.out, X0.out, B0.out⟩
  case round =>
    obtain ⟨k, hk, rfl, hmp, hx, hbw⟩ := hrel
    by_cases hlt : k < m.length
    · have d0 := (hbw.cell (p := ⟨sb, so + k, none⟩) hsb).trans (HSC.out k hlt)
      have hsz := HMS.out _ (List.getElem_mem hlt)
      have htk : dedupL (m.take (k + 1)) = addL (dedupL (m.take k)) m[k] := by rw [List.take_succ_eq_append_getElem hlt, dedup_snoc]
      have HTK := Lib.hid htk
      have HN := Lib.hid (show (dedupL (m.take k)).length < maxLen by have := dedup_le (m.take k); rw [List.length_take] at this; unfold maxLen; omega)
      clear htk
      generalize m[k] = s at *
      generalize dedupL (m.take k) = L at *
      have HMP := Lib.hid hmp
      have HX := Lib.hid hx
      have HBW := Lib.hid hbw
      have hmbl : mb < wr.heap.size := hmp.lt
      have hxl : mb + 1 < wr.heap.size := hx.lt
      have cx : wr.cell? ⟨mb + 1, 2, none⟩ = some (.map (some mb)) := hx.cell 2
      have hsm : s.size ≤ maxLen := by unfold maxLen; omega
      clear hmp hx hbw
      go_wp2
      go_region_law (go_simp; go_at_call 51; refine (HCL.out _ _ (by assumption)).mono ?_; rintro r w7 ⟨rfl, b7⟩; obtain ⟨w8, hrun8, hm8, ht8⟩ := (MapF.keep (w' := w7) HMP.out (b7.block _ hmbl)).update Try.underlying9 Try.underlying86 HN.out hsm unitV; unfold unitV at hrun8; have c7 : w7.cell? ⟨mb + 1, 2, none⟩ = some (.map (some mb)) := (World.cell?_of_block (a := ⟨mb + 1, 2, none⟩) (b7.block _ hxl)).trans cx; have B7 := Lib.hid b7; have M8 := Lib.hid hm8; have G8 := Lib.hid ht8.grown; clear b7 hm8 ht8; simp only [])
      all_goals
        clear hrun8 c7 cx
        go_wp2
        go_roundw
        case rel =>
          have b8 : ∀ g, g < wr.heap.size → g ≠ mb → w8.heap[g]? = wr.heap[g]? := fun g hg hne => (G8.out.block g (Nat.lt_of_lt_of_le hg B7.out.size) (fun e => hne (by simpa using e))).trans (B7.out.block g hg)
          refine ⟨k + 1, by omega, by go_num, by rw [HTK.out]; exact MapF.add M8.out, (b8 _ hxl (by omega)).trans HX.out, ?_⟩
          exact ⟨(G8.out.os.trans B7.out.os).trans HBW.out.os, (G8.out.tape.trans B7.out.tape).trans HBW.out.tape, (G8.out.output.trans B7.out.output).trans HBW.out.output, Nat.le_trans HBW.out.size (Nat.le_trans B7.out.size G8.out.size), fun g hg => (b8 g (Nat.lt_of_lt_of_le hg HBW.out.size) (by omega)).trans (HBW.out.block g hg)⟩
        case measure => simp [intOf]; omega
    · obtain rfl : k = m.length := by omega
      rw [List.take_length] at hmp
      have hmp' := hmp.same (setL_same (fun s => Iff.rfl))
      have hW := HW.out.below hbw (Nat.le_refl _)
      obtain ⟨p, vc, rfl, hvc, hvm, _⟩ := rowS_form hW.row
      have HRO := Lib.hid hW.row
      have HWR := Lib.hid hW
      have HBW := Lib.hid hbw
      have HMP := Lib.hid hmp
      have HX := Lib.hid hx
      have cW := hW.c1
      have HNE := Lib.hid hW.row_ne
      have x0 : wr.cell? ⟨mb + 1, 0, none⟩ = some (.string id) := hx.cell 0
      have x1 : wr.cell? ⟨mb + 1, 1, none⟩ = some (.string text) := hx.cell 1
      have x2 : wr.cell? ⟨mb + 1, 2, none⟩ = some (.map (some mb)) := hx.cell 2
      have HWL := Lib.hid hW.blk.lt
      obtain ⟨i0, hi0, hz0, hz1, hz2⟩ := info_parts (show (Try.prog.info? 100).map (fun i => (i.zero, i.size, i.bytes)) = some (some (.agg #[.string ⟨#[]⟩, .string ⟨#[]⟩, .map none]), 3, 40) by kernel_rfl)
      have I0 := Lib.hid hi0
      have Z0 := Lib.hid hz0
      have Z1 := Lib.hid hz1
      have Z2 := Lib.hid hz2
      have HON := Lib.hid (show ∀ u ∈ [Value.string id, .string text, .map (some mb)], u.oneCell' = true by
        intro u hu; simp only [List.mem_cons, List.not_mem_nil, or_false] at hu; rcases hu with rfl | rfl | rfl <;> rfl)
      have H1 := Lib.hid (show ws.length + 1 ≤ maxLen by unfold maxLen; omega)
      have H2 := Lib.hid (show (ws.length + 1) * 40 ≤ 140737488355328 by omega)
      have H3 := Lib.hid (show ∀ o wx, Like wr o wx → base ≤ wx.heap.size by intro o wx h; have := h.size; have := hbw.size; omega)
      have H4 := Lib.hid (show ∀ (o : Obj) (wx w8 : World), Like wr o wx → wx.grownBy w8 (Value.ownBlock (.slice p ws.length vc)) → Blk w8 W 98 [.int .i64 (places : Int), .slice p ws.length vc] ∧ wr.grownBy w8 (Value.ownBlock (.slice p ws.length vc)) by
        intro o wx w8 hl hg; exact ⟨hW.blk.grown (hl.grown hg) (fun e => hW.row_ne e.symm), hl.grown hg⟩)
      have H5 := Lib.hid (show ∀ o wx, Like wr o wx → wx.ownsRow base 100 3 (.slice p ws.length vc) ws.length (cellsW ws) by
        intro o wx hl; exact own_kept hW.row (fun g hg => hl.old (own_lt hW.row hg).1))
      have H6 := Lib.hid (show ∀ wx, Like wr (.cells #[.string id, .string text, .map (some mb)] 100) wx → ∀ j u, [Value.string id, .string text, .map (some mb)][j]? = some u → wx.cell? ((⟨wr.heap.size, 0, none⟩ : Addr).add j) = some u by
        intro wx hl; exact World.news_of_block (cs := #[.string id, .string text, .map (some mb)]) hl.new)
      have cWA : ∀ o, (wr.alloc o).cell? ⟨W, 1, none⟩ = some (.slice p ws.length vc) := fun o => Lib.cell?_alloc_some _ cW
      have HFIN := Lib.hid (show ∀ g8 cap8 w8, w8.ownsRow base 100 3 (.slice (some ⟨g8, 0, none⟩) (ws.length + 1) cap8) (ws.length + 1) (cellsW ws ++ [.string id, .string text, .map (some mb)]) → (Blk w8 W 98 [.int .i64 (places : Int), .slice p ws.length vc] ∧ wr.grownBy w8 (Value.ownBlock (.slice p ws.length vc))) → (Value.ownBlock (.slice p ws.length vc) = some g8 ∨ g8 = wr.heap.size + 1) →
          ∃ v' mb, WaitAt (w8.setCell ⟨W, 1, none⟩ (.slice (some ⟨g8, 0, none⟩) (ws.length + 1) cap8)) base W places v' (ws ++ [⟨id, text, mb, dedupL m⟩]) ∧ Off (fun g => g = W ∨ Value.ownBlock (.slice p ws.length vc) = some g) w (w8.setCell ⟨W, 1, none⟩ (.slice (some ⟨g8, 0, none⟩) (ws.length + 1) cap8)) ∧ w.heap.size ≤ mb ∧ ∀ g, v'.ownBlock = some g → Value.ownBlock (.slice p ws.length vc) = some g ∨ w.heap.size ≤ g by
        intro g8 cap8 w8 o8 b8 r8
        have hWl := HW.out.blk.lt
        have hsz := hbw.size
        have hg8 : g8 ≠ W := by
          rcases r8 with r | r
          · intro e; exact hW.row_ne (by rw [r, e])
          · have := hW.blk.lt; omega
        have hmbl := hmp.lt
        have old : ∀ g, g < wr.heap.size → g ≠ W → Value.ownBlock (.slice p ws.length vc) ≠ some g → (w8.setCell ⟨W, 1, none⟩ (.slice (some ⟨g8, 0, none⟩) (ws.length + 1) cap8)).heap[g]? = wr.heap[g]? := fun g hg h1 h2 => (Below.heap_setCell w8 ⟨W, 1, none⟩ _ g h1).trans (b8.2.block g hg (fun e => h2 e.symm))
        refine ⟨_, mb, ⟨b8.1.set 1 _, ?_, ?_, ?_, hW.wbase⟩, ?_, hmbw, ?_⟩
        · rw [List.length_append, cellsW_append]
          refine own_kept o8 (fun g hg => Below.heap_setCell w8 ⟨W, 1, none⟩ _ g (fun e => ?_))
          have hgg : g8 = g := by simpa [Value.ownBlock] using hg
          exact hg8 (hgg.trans e)
        · intro x hx
          rcases List.mem_append.1 hx with h1 | h1
          · have hm := hW.map_ne h1
            exact ⟨(hW.maps x h1).1.keep (old _ (hW.maps x h1).1.lt hm.1 hm.2), (hW.maps x h1).2⟩
          · obtain rfl := List.mem_singleton.1 h1
            refine ⟨hmp.keep (old mb hmbl (by omega) (fun e => ?_)), dedup_nodup m, by show base ≤ mb; omega⟩
            have := (HW.out.lt (g := mb) (.inr (.inl e))).1
            omega
        · rw [List.map_append, List.nodup_append]
          refine ⟨hW.apart, by simp, fun a ha b hb2 => ?_⟩
          obtain ⟨x, hx, rfl⟩ := List.mem_map.1 ha
          have := (HW.out.maps x hx).1.lt
          simp at hb2
          omega
        · exact ⟨b8.2.os.trans hbw.os, b8.2.tape.trans hbw.tape, b8.2.output.trans hbw.output, by have := b8.2.size; simp; omega, fun g hg hs => (old g (by omega) (fun e => hs (.inl e)) (fun e => hs (.inr e))).trans (hbw.block g hg)⟩
        · intro g hg
          obtain rfl : g8 = g := by simpa [Value.ownBlock] using hg
          rcases r8 with r | r
          · exact .inl r
          · exact .inr (by omega))
      clear hmp hmp' hW hbw hx hi0 hz0 hz1 hz2
      go_wp2
      go_region_law (refine step_append_lies _ (by rfl) _ _ _ (by rfl) base 100 i0 (.agg #[.string ⟨#[]⟩, .string ⟨#[]⟩, .map none]) 3 40 Try.underlying96 I0.out Z0.out Z1.out Z2.out rfl (by omega) _ ws.length _ (by rfl) (H5.out _ _ ⟨by rfl, by rfl, by rfl, by rfl⟩) ⟨wr.heap.size, 0, none⟩ 1 1 [.string id, .string text, .map (some mb)] (by rfl) (by rfl) (H6.out _ ⟨by rfl, by rfl, by rfl, by rfl⟩) HON.out (by omega) H1.out H2.out (H3.out _ _ ⟨by rfl, by rfl, by rfl, by rfl⟩) (wr.heap.size + 1) (by simp) ?_; intro g8 cap8 w8 hown8 hg8 hor8 hlt8; have B8 := Lib.hid (H4.out _ _ _ ⟨by rfl, by rfl, by rfl, by rfl⟩ hg8); have d8 := B8.out.1.cell 1; have f8 := B8.out.1.frozen 1; have O8 := Lib.hid hown8; have R8 := Lib.hid hor8; clear hown8 hg8 hor8)
      all_goals
        go_wp2
        go_ret
        exact ⟨rfl, HFIN.out _ _ _ O8.out B8.out R8.out⟩
end Go.Proofs.Ytalpmnmpggljcaa
