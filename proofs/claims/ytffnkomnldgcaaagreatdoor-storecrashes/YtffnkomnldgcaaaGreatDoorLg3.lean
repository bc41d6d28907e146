/-
  Contracts of package log: read (of a disk that is on, and not armed).
-/
import Derived.Test.YtffnkomnldgcaaaGreatDoorLg2
import Derived.Deep.RegionLaw
namespace Go.Proofs.YtffnkomnldgcaaaGreatDoor
open Go.RowKit Go.Pal Go.Pal.Dk Go.Pal.Fr Go.Pal.Cr

/-- A block of another kind lies apart from a disk. -/
theorem DkAt.not_typ {w : World} {base D : Nat} {d : Dk} {L : Lay} (h : DkAt w base D d L) {g : Nat} {cur : Array Value} {t : TypeId} {fr : Nat × Nat} (hg : w.heap[g]? = some (.cells cur t fr)) (h1 : t ≠ 54) (h2 : t ≠ 71) (h3 : t ≠ 5) : ¬ Foot D d.files L g := by
  rintro (rfl | hm | ⟨f, hf, rfl | hr⟩)
  · have e := h.blk
    unfold Blk at e
    rw [hg] at e
    injection e with e
    injection e with _ e2
    exact h1 e2
  · obtain ⟨_, es, c, e⟩ := h.map.lt hm
    rw [hg] at e; cases e
  · have e := (h.each f hf).blk
    unfold Blk at e
    rw [hg] at e
    injection e with e
    injection e with _ e2
    exact h2 e2
  · obtain ⟨_, _, c, e⟩ := own_lt (h.each f hf).row hr
    rw [hg] at e
    injection e with e
    injection e with _ e2
    exact h3 e2
theorem LgAt.foot {w : World} {base D Lb last cnt : Nat} {br : Bool} {d : Dk} {L : Lay} (h : LgAt w Lb D last cnt br) (hd : DkAt w base D d L) : ¬ Foot D d.files L Lb := hd.not_typ h (by decide) (by decide) (by decide)
theorem QR.foot {w : World} {base D : Nat} {d : Dk} {L : Lay} (hd : DkAt w base D d L) {b : Nat} {v : Value} {l : List ByteArray} (h : QR w 9 b v l) {g : Nat} (hg : v.ownBlock = some g) : ¬ Foot D d.files L g := by
  obtain ⟨_, _, cur, hh⟩ := h.lt hg
  exact hd.not_typ hh (by decide) (by decide) (by decide)
theorem QR.notBlk {w : World} {B : Nat} {t : TypeId} {bl : List Value} (hB : Blk w B t bl) (ht : t ≠ 9) {b : Nat} {v : Value} {l : List ByteArray} (h : QR w 9 b v l) : v.ownBlock ≠ some B := by
  intro hg
  obtain ⟨_, _, cur, hh⟩ := h.lt hg
  unfold Blk at hB
  rw [hh] at hB
  injection hB with e
  injection e with _ e2
  exact ht e2.symm

/-- How long the last segment's records are. -/
def goodN (gs : List (List ByteArray)) : Nat := (sealL (gs.getD (gs.length - 1) [])).size
/-- What an opening makes of a disk. -/
def openD (d : Dk) (gs : List (List ByteArray)) (tl : ByteArray) : Dk := if tl.size = 0 then d else { d with files := modF (segN (gs.length - 1)) (cutF (goodN gs)) d.files }
theorem openD_same (d : Dk) (gs : List (List ByteArray)) (tl : ByteArray) (h : tl.size = 0) : openD d gs tl = d := if_pos h
theorem openD_cut {d : Dk} {gs : List (List ByteArray)} {tl : ByteArray} (hs : Segs d.files gs tl) (hon : d.on = true) (harm : d.arm = none) (h : tl.size ≠ 0) : cutD d (segN (gs.length - 1)) (goodN gs : Int) = (0, openD d gs tl) := by
  have hg : gs.length ≠ 0 := fun e => h (by rw [hs.tl0 (List.eq_nil_of_length_eq_zero e)]; rfl)
  have hf := hs.few
  obtain ⟨f, h1, h2⟩ := hs.at' (gs.length - 1) (by omega)
  have hb : begD d = (true, d) := by unfold begD; rw [hon, if_neg (by decide), harm]
  have he : begE d (segN (gs.length - 1)) = 0 := by unfold begE; rw [hb, if_neg (by simp), segN_ok _ (by omega), if_neg (by decide)]
  have hz : goodN gs ≤ f.data.size := by
    rw [h2, segD, ByteArray.size_append]; unfold goodN; omega
  unfold cutD
  rw [he, if_neg (by simp), h1, hb]
  simp only []
  rw [if_neg (by omega), Int.toNat_natCast, openD, if_neg h]
theorem openD_none {d : Dk} {gs : List (List ByteArray)} {tl : ByteArray} (hs : Segs d.files gs tl) (ho : SortedF d.files) : atF (openD d gs tl).files (segN gs.length) = none := by
  have hn := hs.no gs.length (Nat.le_refl _) (by have := hs.few; omega)
  unfold openD
  split
  · exact hn
  · show atF (modF _ _ d.files) _ = none
    rw [atF_cut ho, hn]; rfl

/-- What read keeps from segment to segment. -/
structure Rl (w : World) (base D Lb cnt : Nat) (br : Bool) (d : Dk) (L : Lay) (gs : List (List ByteArray)) (tl : ByteArray) (k : Nat) (v sp : Value) (wr : World) : Prop where
  le : k ≤ gs.length
  spo : sp = .bool (decide (k = gs.length) && decide (tl.size ≠ 0))
  row : QR wr 9 w.heap.size v (gs.take k).flatten
  log : LgAt wr Lb D (k - 1) cnt br
  off : Off (fun g => g = Lb ∨ Foot D d.files L g) w wr
  dk : k < gs.length → DkAt wr base D d L
  dl : k = gs.length → ∃ L', DkAt wr base D (openD d gs tl) L' ∧ ∀ x, Foot D (openD d gs tl).files L' x → Foot D d.files L x ∨ w.heap.size ≤ x
theorem Rl.step {w wr w2 : World} {base D Lb cnt : Nat} {br : Bool} {d : Dk} {L : Lay} {gs : List (List ByteArray)} {tl : ByteArray} {k : Nat} {v sp v2 : Value} (h : Rl w base D Lb cnt br d L gs tl k v sp wr) (hk : k < gs.length) {n : Nat}
    (ho : Off (fun g => v.ownBlock = some g) ((wr.drewN n).setCell ⟨Lb, 2, none⟩ (.int .i64 (k : Int))) w2) (hq : QR w2 9 w.heap.size v2 ((gs.take k).flatten ++ gs.getD k [])) :
    LgAt w2 Lb D k cnt br ∧ DkAt w2 base D d L ∧ Off (fun g => g = Lb ∨ Foot D d.files L g) w w2 ∧ QR w2 9 w.heap.size v2 (gs.take (k + 1)).flatten := by
  have hd := h.dk hk
  have hl := h.log
  have hlt : Lb < wr.heap.size := Blk.lt hl
  have hne : v.ownBlock ≠ some Lb := QR.notBlk hl (by decide) h.row
  have l1 : LgAt ((wr.drewN n).setCell ⟨Lb, 2, none⟩ (.int .i64 (k : Int))) Lb D k cnt br := (Blk.drewN hl n).set 2 (.int .i64 (k : Int))
  have f1 := hl.foot hd
  have d1 : DkAt ((wr.drewN n).setCell ⟨Lb, 2, none⟩ (.int .i64 (k : Int))) base D d L := hd.keep fun g hg => Below.heap_setCell (wr.drewN n) _ _ g (fun e => f1 (by rw [show Lb = g from e.symm]; exact hg))
  have o1 : Off (fun g => g = Lb ∨ Foot D d.files L g) w ((wr.drewN n).setCell ⟨Lb, 2, none⟩ (.int .i64 (k : Int))) := Off.set (w' := wr.drewN n) ⟨h.off.os, h.off.tape, h.off.output, h.off.size, h.off.block⟩ (.inr (.inl rfl)) _
  have hz : ((wr.drewN n).setCell ⟨Lb, 2, none⟩ (.int .i64 (k : Int))).heap.size = wr.heap.size := by simp
  refine ⟨l1.keep (ho.block Lb (by rw [hz]; exact hlt) hne), d1.off ho (fun g hg hv => QR.foot hd h.row hv hg), o1.trans ho (fun g hg hv => ?_), ?_⟩
  · have := (h.row.lt hv).2.1
    omega
  · rw [List.take_succ_eq_append_getElem hk, List.flatten_append]
    have e : gs.getD k [] = gs[k] := by rw [List.getD_eq_getElem?_getD, List.getElem?_eq_getElem hk]; rfl
    rw [e] at hq
    simpa using hq

theorem Went.like {w W w' : World} {base D : Nat} {d d' : Dk} {L : Lay} (h : Went W base D d L d' w') (h1 : W.heap = w.heap) (h2 : W.os = w.os) (h3 : W.tape = w.tape) (h4 : W.output = w.output) : Went w base D d L d' w' := by
  obtain ⟨L', a, b, c⟩ := h
  exact ⟨L', a, ⟨b.os.trans h2, b.tape.trans h3, b.output.trans h4, by rw [← h1]; exact b.size, fun g hg hs => by rw [← h1]; exact b.block g (by rw [h1]; exact hg) hs⟩, fun x hx => by rw [← h1]; exact c x hx⟩
theorem Rl.cut {w w2 w6 : World} {base D Lb cnt : Nat} {br : Bool} {d : Dk} {L : Lay} {gs : List (List ByteArray)} {tl : ByteArray} {k : Nat} {v2 : Value} (hc : k + 1 = gs.length ∧ tl.size ≠ 0) (l3 : LgAt w2 Lb D k cnt br) (d3 : DkAt w2 base D d L)
    (o3 : Off (fun g => g = Lb ∨ Foot D d.files L g) w w2) (q3 : QR w2 9 w.heap.size v2 (gs.take (k + 1)).flatten) (hw : Went w2 base D d L (openD d gs tl) w6) : Rl w base D Lb cnt br d L gs tl (k + 1) v2 (.bool true) w6 := by
  obtain ⟨L', d6, o6, f6⟩ := hw
  refine ⟨by omega, by simp [hc.1, hc.2], q3.keep (fun g hg => o6.block g (q3.lt hg).1 (QR.foot d3 q3 hg)), l3.keep (o6.block Lb (Blk.lt l3) (l3.foot d3)), o3.trans o6 (fun g _ hf => .inr hf), fun h => by omega, fun _ => ⟨L', d6, fun x hx => ?_⟩⟩
  rcases f6 x hx with h | h
  · exact .inl h
  · exact .inr (Nat.le_trans o3.size h)
theorem Rl.whole {w w2 : World} {base D Lb cnt : Nat} {br : Bool} {d : Dk} {L : Lay} {gs : List (List ByteArray)} {tl : ByteArray} {k : Nat} {v2 : Value} (hlt : k < gs.length) (hc : ¬ (k + 1 = gs.length ∧ tl.size ≠ 0)) (l3 : LgAt w2 Lb D k cnt br) (d3 : DkAt w2 base D d L)
    (o3 : Off (fun g => g = Lb ∨ Foot D d.files L g) w w2) (q3 : QR w2 9 w.heap.size v2 (gs.take (k + 1)).flatten) : Rl w base D Lb cnt br d L gs tl (k + 1) v2 (.bool false) w2 := by
  refine ⟨hlt, ?_, q3, l3, o3, fun _ => d3, fun h => ?_⟩
  · by_cases h1 : k + 1 = gs.length
    · have : tl.size = 0 := Classical.byContradiction fun h => hc ⟨h1, h⟩
      simp [this]
    · simp [h1]
  · have : tl.size = 0 := Classical.byContradiction fun h2 => hc ⟨h, h2⟩
    rw [openD_same d gs tl this]
    exact ⟨L, d3, fun x hx => .inl hx⟩

set_option linter.unusedVariables false in
set_option maxHeartbeats 2000000 in
set_option maxRecDepth 100000 in
theorem read_log {w : World} {base D Lb cnt : Nat} {br : Bool} {d : Dk} {L : Lay} {gs : List (List ByteArray)} {tl : ByteArray} (hl : LgAt w Lb D 0 cnt br) (hd : DkAt w base D d L) (hon : d.on = true) (harm : d.arm = none) (hs : Segs d.files gs tl) (hfl : gs.flatten.length ≤ 1000000) :
    Calls Tryz.prog 33 #[.pointer (some ⟨Lb, 0, none⟩)] w fun e w' => ∃ v L', e = .returned (.tuple #[v, .int .i64 0]) ∧ QR w' 9 w.heap.size v gs.flatten ∧ LgAt w' Lb D (gs.length - 1) cnt br ∧ DkAt w' base D (openD d gs tl) L' ∧ Off (fun g => g = Lb ∨ Foot D d.files L g) w w' ∧ (∀ x, Foot D (openD d gs tl).files L' x → Foot D d.files L x ∨ w.heap.size ≤ x) := by
  have hfew := hs.few
  have HSG := Lib.hid (fun (W : World) (last : Nat) (h : LgAt W Lb D last cnt br) (i : Nat) (hi : i < 100) => segment_any h i hi)
  have HRD := Lib.hid (show ∀ (k : Nat) (hk : k < gs.length) (W : World), DkAt W base D d L → Calls Tryz.prog 46 #[.pointer (some ⟨D, 0, none⟩), .string (segN k)] W fun e w' => e = .returned (.tuple #[.string (sealL (gs.getD k []) ++ (if k + 1 = gs.length then tl else ByteArray.empty)), .int .i64 0]) ∧ w' = W by
    intro k hk W hW
    have h0 := dread_any hW (segN k) (by have := segN_size k (by omega); unfold maxLen; omega)
    obtain ⟨f, f1, f2⟩ := hs.at' k hk
    have e : readD d (segN k) = (segD gs tl k, 0) := by unfold readD; rw [hon, if_neg (by decide), f1, ← f2]
    rw [e] at h0
    exact h0)
  have HRN := Lib.hid (show ∀ (W : World) (L' : Lay), DkAt W base D (openD d gs tl) L' → Calls Tryz.prog 46 #[.pointer (some ⟨D, 0, none⟩), .string (segN gs.length)] W fun e w' => e = .returned (.tuple #[.string ByteArray.empty, .int .i64 10]) ∧ w' = W by
    intro W L' hW
    have h0 := dread_any hW (segN gs.length) (by have := segN_size gs.length (by omega); unfold maxLen; omega)
    have e2 : (openD d gs tl).on = true := by unfold openD; split <;> exact hon
    have e : readD (openD d gs tl) (segN gs.length) = (ByteArray.empty, 10) := by unfold readD; rw [e2, if_neg (by decide), openD_none hs hd.good.sorted]
    rw [e] at h0
    exact h0)
  have HOP := Lib.hid (show ∀ (k : Nat) (hk : k < gs.length) (W : World) (v : Value) (h : QR W 9 w.heap.size v (gs.take k).flatten) (hb : w.heap.size ≤ W.heap.size), Calls Tryz.prog 48 #[v, .string (sealL (gs.getD k []) ++ (if k + 1 = gs.length then tl else ByteArray.empty))] W fun e w' => ∃ v', e = .returned (.tuple #[v', .int .i64 ((sealL (gs.getD k [])).size : Int)]) ∧ QR w' 9 w.heap.size v' ((gs.take k).flatten ++ gs.getD k []) ∧ Off (fun g => v.ownBlock = some g) W w' ∧ ∀ b, v'.ownBlock = some b → v.ownBlock = some b ∨ W.heap.size ≤ b by
    intro k hk W v h hb
    have e : gs.getD k [] = gs[k] := by rw [List.getD_eq_getElem?_getD, List.getElem?_eq_getElem hk]; rfl
    have e3 : gs.flatten = (gs.take k).flatten ++ (gs[k] ++ (gs.drop (k + 1)).flatten) := by
      have h4 : gs.take k ++ gs[k] :: gs.drop (k + 1) = gs := by rw [← List.drop_eq_getElem_cons hk, List.take_append_drop]
      have h5 := congrArg List.flatten h4
      rw [List.flatten_append, List.flatten_cons] at h5
      exact h5.symm
    refine opened_any W w.heap.size v _ _ _ h hb (fun r hr => hs.recs r ?_) ?_ ?_ ?_
    · rw [e3]; rw [e] at hr
      exact List.mem_append_right _ (List.mem_append_left _ hr)
    · split
      · exact hs.bad
      · exact opOk_empty
    · obtain ⟨f, f1, f2⟩ := hs.at' k hk
      have : f.data.size ≤ 4194304 := Nat.le_trans (data_le_used (atF_some f1).1) (Nat.le_trans hd.good.used hd.good.room)
      rw [f2, segD] at this
      omega
    · have := congrArg List.length e3
      rw [e]
      simp only [List.length_append] at this
      omega)
  have HSZ := Lib.hid (show ∀ k, k < gs.length → (sealL (gs.getD k [])).size ≤ 4194304 ∧ (sealL (gs.getD k []) ++ (if k + 1 = gs.length then tl else ByteArray.empty)).size ≤ 4194304 by
    intro k hk
    obtain ⟨f, f1, f2⟩ := hs.at' k hk
    have : f.data.size ≤ 4194304 := Nat.le_trans (data_le_used (atF_some f1).1) (Nat.le_trans hd.good.used hd.good.room)
    rw [f2, segD] at this
    exact ⟨by rw [ByteArray.size_append] at this; omega, this⟩)
  have HCT := Lib.hid (show tl.size ≠ 0 → ∀ (W : World), DkAt W base D d L → Calls Tryz.prog 49 #[.pointer (some ⟨D, 0, none⟩), .string (segN (gs.length - 1)), .int .i64 ((sealL (gs.getD (gs.length - 1) [])).size : Int)] W fun e w' => e = .returned (.int .i64 0) ∧ Went W base D d L (openD d gs tl) w' by
    intro ht W hW
    have hg : gs.length ≠ 0 := fun e => ht (by rw [hs.tl0 (List.eq_nil_of_length_eq_zero e)]; rfl)
    have h0 := cut_any hW (segN (gs.length - 1)) (by have := segN_size (gs.length - 1) (by omega); unfold maxLen; omega) (goodN gs : Int) (by omega) (by
      obtain ⟨f, f1, f2⟩ := hs.at' (gs.length - 1) (by omega)
      have : f.data.size ≤ 4194304 := Nat.le_trans (data_le_used (atF_some f1).1) (Nat.le_trans hd.good.used hd.good.room)
      rw [f2, segD, ByteArray.size_append] at this
      unfold goodN; omega)
    rw [openD_cut hs hon harm ht] at h0
    exact h0)
  have HST := Lib.hid (show Rl w base D Lb cnt br d L gs tl 0 (.slice none 0 0) (.bool false) w from ⟨Nat.zero_le _, by
      by_cases h0 : gs.length = 0
      · rw [hs.tl0 (List.eq_nil_of_length_eq_zero h0)]; simp
      · have : ¬ (0 = gs.length) := fun e => h0 e.symm
        simp [this], QR.nil _ _ _, hl, Off.refl _ _, fun _ => hd, fun h0 => ⟨L, by rw [openD_same d gs tl (by rw [hs.tl0 (List.eq_nil_of_length_eq_zero h0.symm)]; rfl)]; exact hd, fun x hx => .inl (by rwa [openD_same d gs tl (by rw [hs.tl0 (List.eq_nil_of_length_eq_zero h0.symm)]; rfl)] at hx)⟩⟩)
  clear hs hd hl hfl hon harm
  go_enter Tryz.func33, Tryz.ntmps33
  go_wp2
  go_loopw [4, 5, 6] (fun v sp i wr => ∃ k : Nat, i = .int .i64 (k : Int) ∧ Rl w base D Lb cnt br d L gs tl k v sp wr) (fun v sp i _ => gs.length - (intOf i).toNat)
  case atStart => exact ⟨0, rfl, HST.out⟩
  case round =>
    obtain ⟨k, rfl, hR⟩ := hrel
    have hk := hR.le
    by_cases hlt : k < gs.length
    · have hD := hR.dk hlt
      have c0 : wr.cell? ⟨Lb, 0, none⟩ = some (.pointer (some ⟨D, 0, none⟩)) := Blk.cell hR.log 0
      have c2 : wr.cell? ⟨Lb, 2, none⟩ = some (.int .i64 ((k - 1 : Nat) : Int)) := Blk.cell hR.log 2
      have f2 := Blk.frozen hR.log 2
      have hsp := hR.spo
      rw [decide_eq_false (show ¬ (k = gs.length) by omega), Bool.false_and] at hsp
      have HSK := Lib.hid (fun (W : World) (last : Nat) (h : LgAt W Lb D last cnt br) => HSG.out W last h k (by omega))
      have HS1 := Lib.hid (fun (W : World) (hw : W.heap = wr.heap) => HSK.out W _ (hR.log.keep (w' := W) (by rw [hw])))
      have HR1 := Lib.hid (fun (W : World) (hw : W.heap = wr.heap) => HRD.out k hlt W (hD.keep (w' := W) (fun g _ => by rw [hw])))
      obtain ⟨hz1, hz2⟩ := HSZ.out k hlt
      have HOP1 := Lib.hid (HOP.out k hlt)
      have HSTP := Lib.hid (fun w2 v2 n ho hq => @Rl.step w wr w2 base D Lb cnt br d L gs tl k _ _ v2 hR hlt n ho hq)
      have HQS := Lib.hid (fun n => show QR ((wr.drewN n).setCell ⟨Lb, 2, none⟩ (.int .i64 (k : Int))) 9 w.heap.size _ (gs.take k).flatten from hR.row.keep (fun g hg => Below.heap_setCell (wr.drewN n) _ _ g (fun e => QR.notBlk hR.log (by decide) hR.row (by rw [hg]; exact congrArg some e))))
      have HBS := Lib.hid (show w.heap.size ≤ wr.heap.size from hR.off.size)
      have HD2 := Lib.hid hD
      have hT : (sealL (gs.getD k []) ++ (if k + 1 = gs.length then tl else ByteArray.empty)).size = (sealL (gs.getD k [])).size + (if k + 1 = gs.length then tl else ByteArray.empty).size := ByteArray.size_append
      subst hsp
      clear hR hD
      by_cases hc : k + 1 = gs.length ∧ tl.size ≠ 0
      · have hk1 : gs.length - 1 = k := by omega
        have HC1 := Lib.hid (HCT.out hc.2)
        rw [hk1] at HC1
        rw [if_pos hc.1] at hT HOP1 HR1 hz2
        have hgt : (sealL (gs.getD k [])).size < (sealL (gs.getD k []) ++ tl).size := by omega
        generalize sealL (gs.getD k []) ++ tl = T at *
        generalize hzz : (sealL (gs.getD k [])).size = z at *
        generalize segN k = sg at *
        clear hT hzz
        go_wp2_with fail
        go_quiet (first | (go_at_call 47; exact Calls.quiet_of (HS1.out _ (by rfl))) | (go_at_call 46; exact Calls.quiet_of_same (HR1.out _ (by rfl))))
        go_wp2_with fail
        refine (HOP1.out _ _ (HQS.out _) (by simpa using HBS.out)).mono ?_
        rintro e w2 ⟨v2, rfl, q2, o2, a2⟩
        obtain ⟨l3, d3, o3, q3⟩ := HSTP.out w2 v2 _ o2 q2
        have c03 : w2.cell? ⟨Lb, 0, none⟩ = some (.pointer (some ⟨D, 0, none⟩)) := Blk.cell l3 0
        have HS3 := Lib.hid (fun (W : World) (hw : W.heap = w2.heap) => HSK.out W _ (l3.keep (w' := W) (by rw [hw])))
        have HC3 := Lib.hid (fun (W : World) (hw : W.heap = w2.heap) => HC1.out W (d3.keep (w' := W) (fun g _ => by rw [hw])))
        have L3 := Lib.hid l3
        have D3 := Lib.hid d3
        have O3 := Lib.hid o3
        have Q3 := Lib.hid q3
        clear l3 d3 o3 q3 o2 q2 a2 c0 c2 f2
        go_wp2_with fail
        go_region_law (first | (go_simp; go_at_call 47; refine (HS3.out _ (by rfl)).mono ?_; rintro e w5 ⟨rfl, m5, rfl⟩; simp only []) | (go_simp; go_at_call 49; refine (HC3.out _ (by rfl)).mono ?_; rintro e w6 ⟨rfl, W6⟩; have W7 := Lib.hid W6; clear W6; simp only []))
        go_wp2
        all_goals
          refine ⟨⟨k + 1, by go_num, ?_⟩, by simp [intOf]; omega⟩
          exact Rl.cut hc L3.out D3.out O3.out Q3.out (Went.like W7.out rfl rfl rfl rfl)
      · have ht : (if k + 1 = gs.length then tl else ByteArray.empty).size = 0 := by
          by_cases h1 : k + 1 = gs.length
          · rw [if_pos h1]; exact Classical.byContradiction fun h => hc ⟨h1, h⟩
          · rw [if_neg h1]; rfl
        rw [ht, Nat.add_zero] at hT
        generalize sealL (gs.getD k []) ++ (if k + 1 = gs.length then tl else ByteArray.empty) = T at *
        generalize hzz : (sealL (gs.getD k [])).size = z at *
        generalize segN k = sg at *
        have hTz : ¬ (z < T.size) := by omega
        have HC := Lib.hid hc
        clear hT hzz hc ht
        go_wp2_with fail
        go_quiet (first | (go_at_call 47; exact Calls.quiet_of (HS1.out _ (by rfl))) | (go_at_call 46; exact Calls.quiet_of_same (HR1.out _ (by rfl))))
        go_wp2_with fail
        refine (HOP1.out _ _ (HQS.out _) (by simpa using HBS.out)).mono ?_
        rintro e w2 ⟨v2, rfl, q2, o2, a2⟩
        obtain ⟨l3, d3, o3, q3⟩ := HSTP.out w2 v2 _ o2 q2
        have L3 := Lib.hid l3
        have D3 := Lib.hid d3
        have O3 := Lib.hid o3
        have Q3 := Lib.hid q3
        clear l3 d3 o3 q3 o2 q2 a2 c0 c2 f2
        go_wp2
        refine ⟨⟨k + 1, by go_num, ?_⟩, by simp [intOf]; omega⟩
        exact Rl.whole hlt HC.out L3.out D3.out O3.out Q3.out
    · obtain rfl : k = gs.length := by omega
      obtain ⟨L', hD, hF⟩ := hR.dl rfl
      have c0 : wr.cell? ⟨Lb, 0, none⟩ = some (.pointer (some ⟨D, 0, none⟩)) := Blk.cell hR.log 0
      have HS1 := Lib.hid (fun (W : World) (hw : W.heap = wr.heap) => HSG.out W _ (hR.log.keep (w' := W) (by rw [hw])) gs.length (by omega))
      have HR1 := Lib.hid (fun (W : World) (hw : W.heap = wr.heap) => HRN.out W L' (hD.keep (w' := W) (fun g _ => by rw [hw])))
      have HR := Lib.hid hR
      have HDF := Lib.hid (And.intro hD hF)
      clear hR hD hF
      generalize segN gs.length = sg at *
      go_wp2_with fail
      go_quiet (first | (go_at_call 47; exact Calls.quiet_of (HS1.out _ (by rfl))) | (go_at_call 46; exact Calls.quiet_of_same (HR1.out _ (by rfl))))
      go_wp2
      go_ret2
      have hR := HR.out
      refine ⟨_, L', rfl, ?_, hR.log, HDF.out.1.keep (fun _ _ => rfl), ⟨hR.off.os, hR.off.tape, hR.off.output, hR.off.size, hR.off.block⟩, HDF.out.2⟩
      have := hR.row
      rw [List.take_length] at this
      exact this.keep (fun _ _ => rfl)
end Go.Proofs.YtffnkomnldgcaaaGreatDoor
