/-
  Contracts of package log: Append.
-/
import Derived.Test.YtffnkomnldgcaaaGreatDoorLg4
namespace Go.Proofs.YtffnkomnldgcaaaGreatDoor
open Go.RowKit Go.Pal Go.Pal.Dk Go.Pal.Fr Go.Pal.Cr

theorem beg_off {d : Dk} (h : (begD d).1 = false) : (begD d).2.on = false ∧ (begD d).2.files = d.files ∧ (begD d).2.room = d.room ∧ ∀ n s, appendD d n s = (6, (begD d).2) := by
  refine ⟨?_, (begD_files d).1, (begD_files d).2, fun n s => ?_⟩
  · unfold begD at h ⊢
    split
    · assumption
    · split
      · simp_all
      · rfl
      · simp_all
  · have e : begE d n = 6 := by unfold begE; rw [if_pos h]
    unfold appendD
    rw [e, if_pos (by decide)]
theorem beg_sync {d : Dk} (h : (begD d).1 = false) : ∀ n, syncD d n = (6, (begD d).2) := by
  intro n
  have e : begE d n = 6 := by unfold begE; rw [if_pos h]
  unfold syncD
  rw [e, if_pos (by decide)]
theorem beg_on {d : Dk} (h : (begD d).1 = true) : d.on = true := by
  unfold begD at h
  split at h
  · cases h
  · rename_i h2; simpa using h2
theorem beg_append {d : Dk} (h : (begD d).1 = true) {n s : ByteArray} (hn : nameOk n = true) (hr : usedF d.files + s.size ≤ d.room) : appendD d n s = (0, { (begD d).2 with files := putF n s d.files }) := by
  have e : begE d n = 0 := by unfold begE; rw [h, if_neg (by decide), hn, if_neg (by decide)]
  unfold appendD
  rw [e, if_neg (by simp), if_neg (by omega)]
theorem atF_put_some {l : List Fl} (hs : SortedF l) (n s : ByteArray) : ∃ f, atF (putF n s l) n = some f := by
  rw [atF_put hs, if_pos rfl]; exact ⟨_, rfl⟩
theorem beg_synced {d : Dk} (h : (begD d).1 = true) {n : ByteArray} (hn : nameOk n = true) {f : Fl} (hf : atF d.files n = some f) : syncD d n = (0, { (begD d).2 with files := modF n syncF d.files }) := by
  have e : begE d n = 0 := by unfold begE; rw [h, if_neg (by decide), hn, if_neg (by decide)]
  unfold syncD
  rw [e, if_neg (by simp), hf]
/-- The disk behind an append of a record. -/
def laidD (d : Dk) (n s : ByteArray) : Dk := { (begD d).2 with files := putF n s d.files }
def syncedD (d : Dk) (n : ByteArray) : Dk := { (begD d).2 with files := modF n syncF d.files }
theorem next_on {d : Dk} {gs : List (List ByteArray)} (hs : Segs d.files gs ByteArray.empty) (hon : d.on = true) : (if 4096 ≤ (textL d (gs.length - 1)).size then gs.length - 1 + 1 else gs.length - 1) = nextL gs := by
  have e : textL d (gs.length - 1) = sealL (gs.getD (gs.length - 1) []) := by
    unfold textL readD
    rw [hon, if_neg (by decide)]
    by_cases h0 : gs.length = 0
    · obtain rfl := List.eq_nil_of_length_eq_zero h0
      rw [show atF d.files (segN (([] : List (List ByteArray)).length - 1)) = none from hs.no 0 (Nat.le_refl _) (by omega)]
      rfl
    · obtain ⟨f, f1, f2⟩ := hs.at' (gs.length - 1) (by omega)
      rw [f1]
      show f.data = _
      rw [f2, segD, ite_self, app_empty]
  rw [e]; rfl

/-- What the three ways out of an append have in common. -/
structure Ap (w : World) (base D Lb : Nat) (d : Dk) (L : Lay) (last cnt : Nat) (br : Bool) (d' : Dk) (w' : World) : Prop where
  log : LgAt w' Lb D last cnt br
  dk : ∃ L', DkAt w' base D d' L' ∧ ∀ x, Foot D d'.files L' x → Foot D d.files L x ∨ w.heap.size ≤ x
  off : Off (fun g => g = Lb ∨ Foot D d.files L g) w w'
theorem Ap.of {w w' : World} {base D Lb : Nat} {d d' : Dk} {L : Lay} {last cnt : Nat} {br : Bool} (hl : LgAt w Lb D last cnt br) (hd : DkAt w base D d L) (h : Went w base D d L d' w') : Ap w base D Lb d L last cnt br d' w' := by
  obtain ⟨L', a, b, c⟩ := h
  exact ⟨hl.keep (b.block Lb (Blk.lt hl) (hl.foot hd)), ⟨L', a, c⟩, b.mono (fun g _ h => .inr h)⟩
theorem Ap.below {w w1 w' : World} {base D Lb : Nat} {d d' : Dk} {L : Lay} {last cnt : Nat} {br : Bool} (b : Below w.heap.size w w1) (h : Ap w1 base D Lb d L last cnt br d' w') : Ap w base D Lb d L last cnt br d' w' := by
  obtain ⟨l, ⟨L', a, c⟩, o⟩ := h
  refine ⟨l, ⟨L', a, fun x hx => ?_⟩, (Off.of_new b _).trans o (fun g _ h => h)⟩
  rcases c x hx with h | h
  · exact .inl h
  · exact .inr (Nat.le_trans b.size h)
theorem Ap.like {w W w' : World} {base D Lb : Nat} {d d' : Dk} {L : Lay} {last cnt : Nat} {br : Bool} (h : Ap W base D Lb d L last cnt br d' w') (h1 : W.heap = w.heap) (h2 : W.os = w.os) (h3 : W.tape = w.tape) (h4 : W.output = w.output) : Ap w base D Lb d L last cnt br d' w' := by
  obtain ⟨l, ⟨L', a, c⟩, b⟩ := h
  exact ⟨l, ⟨L', a, fun x hx => by rw [← h1]; exact c x hx⟩, ⟨b.os.trans h2, b.tape.trans h3, b.output.trans h4, by rw [← h1]; exact b.size, fun g hg hs => by rw [← h1]; exact b.block g (by rw [h1]; exact hg) hs⟩⟩
theorem Ap.then {w w1 w' : World} {base D Lb : Nat} {d d1 d' : Dk} {L : Lay} {last cnt : Nat} {br : Bool} (h : Ap w base D Lb d L last cnt br d1 w1) (h2 : ∀ L1, DkAt w1 base D d1 L1 → Went w1 base D d1 L1 d' w') : Ap w base D Lb d L last cnt br d' w' := by
  obtain ⟨l, ⟨L1, a, c⟩, o⟩ := h
  obtain ⟨L2, a2, b2, c2⟩ := h2 L1 a
  refine ⟨l.keep (b2.block Lb (Blk.lt l) (l.foot a)), ⟨L2, a2, fun x hx => ?_⟩, o.trans b2 (fun g hg hs => ?_)⟩
  · rcases c2 x hx with h | h
    · exact c x h
    · exact .inr (Nat.le_trans o.size h)
  · rcases c g hs with h | h
    · exact .inr h
    · omega
theorem Ap.set {w w' : World} {base D Lb : Nat} {d d' : Dk} {L : Lay} {last cnt last' cnt' : Nat} {br br' : Bool} {i : Nat} {v : Value} (h : Ap w base D Lb d L last cnt br d' w') (hb : LgAt (w'.setCell ⟨Lb, i, none⟩ v) Lb D last' cnt' br') : Ap w base D Lb d L last' cnt' br' d' (w'.setCell ⟨Lb, i, none⟩ v) := by
  obtain ⟨l, ⟨L', a, c⟩, o⟩ := h
  have hf := l.foot a
  exact ⟨hb, ⟨L', a.keep (fun g hg => Below.heap_setCell w' _ _ g (fun e => hf (by rw [show Lb = g from e.symm]; exact hg))), c⟩, o.set (.inr (.inl rfl)) _⟩

set_option linter.unusedVariables false in
set_option maxHeartbeats 2000000 in
set_option maxRecDepth 100000 in
theorem append_off {w : World} {base D Lb last cnt : Nat} {d : Dk} {L : Lay} (hl : LgAt w Lb D last cnt false) (hd : DkAt w base D d L) (hlast : last < 90) (r : ByteArray) (hr : r.size ≤ 65535) (hlen : d.files.length ≤ 1000000) (hb : (begD d).1 = false) :
    Calls Tryz.prog 45 #[.pointer (some ⟨Lb, 0, none⟩), .string r] w fun e w' => e = .returned (.int .i64 6) ∧ Ap w base D Lb d L last cnt true (begD d).2 w' := by
  obtain ⟨g1, g2, g3, g4⟩ := beg_off hb
  have HSL := Lib.hid (fun W => sealed_yes r hr W)
  have HNX := Lib.hid (fun (W : World) (h1 : LgAt W Lb D last cnt false) (h2 : DkAt W base D d L) => next_any h1 h2 (by omega))
  obtain ⟨K, hK, hKl⟩ : ∃ K, K = (if 4096 ≤ (textL d last).size then last + 1 else last) ∧ K < 100 := ⟨_, rfl, by split <;> omega⟩
  rw [← hK] at HNX
  have HSG := Lib.hid (fun (W : World) (h1 : LgAt W Lb D last cnt false) => segment_any h1 K hKl)
  have HAP := Lib.hid (show ∀ (W : World) (h2 : DkAt W base D d L), Calls Tryz.prog 59 #[.pointer (some ⟨D, 0, none⟩), .string (segN K), .string (sealB r)] W fun e w' => e = .returned (.int .i64 6) ∧ Went W base D d L (begD d).2 w' by
    intro W h2
    have h0 := append_any h2 (segN K) (sealB r) (by have := segN_size K hKl; unfold maxLen; omega) (by rw [sealB_size]; unfold maxLen; omega) (by omega)
    rw [g4] at h0; exact h0)
  have HL := Lib.hid hl
  have HD := Lib.hid hd
  have HON := Lib.hid (show ∀ (W : World) (L' : Lay), DkAt W base D (begD d).2 L' → Calls Tryz.prog 60 #[.pointer (some ⟨D, 0, none⟩)] W fun e w' => e = .returned (.bool false) ∧ w' = W by
    intro W L' h
    have h0 := on_any h
    rw [g1] at h0; exact h0)
  generalize sealB r = sr at *
  generalize segN K = sg at *
  clear hl hd hb g1 g2 g3 g4 hK
  go_enter Tryz.func45, Tryz.ntmps45
  go_wp2_with fail
  refine (HSL.out _).mono ?_
  rintro e w1 ⟨rfl, b1⟩
  have l1 := HL.out.keep (b1.block Lb (Blk.lt HL.out))
  have d1 := HD.out.below b1 (Nat.le_refl _)
  have c0 : w1.cell? ⟨Lb, 0, none⟩ = some (.pointer (some ⟨D, 0, none⟩)) := Blk.cell l1 0
  have c4 : w1.cell? ⟨Lb, 4, none⟩ = some (.bool false) := Blk.cell l1 4
  have L1 := Lib.hid l1
  have D1 := Lib.hid d1
  have B1 := Lib.hid b1
  clear l1 d1 b1
  go_wp2_with fail
  refine (HNX.out _ L1.out D1.out).mono ?_
  rintro e w2 ⟨rfl, m2, rfl⟩
  go_wp2_with fail
  go_region_law (first | (go_simp; go_at_call 47; refine (HSG.out _ (L1.out.keep (by rfl))).mono ?_; rintro e w5 ⟨rfl, m5, rfl⟩; simp only []) | (go_simp; go_at_call 59; refine (HAP.out _ (D1.out.keep (fun _ _ => by rfl))).mono ?_; rintro e w6 ⟨rfl, W6⟩; have W7 := Lib.hid (Ap.of L1.out D1.out (Went.like (w := w1) W6 rfl rfl rfl rfl)); clear W6; simp only []))
  all_goals
    obtain ⟨L7, d7, f7⟩ := W7.out.dk
    have c07 : w6.cell? ⟨Lb, 0, none⟩ = some (.pointer (some ⟨D, 0, none⟩)) := Blk.cell W7.out.log 0
    have c47 : w6.cell? ⟨Lb, 4, none⟩ = some (.bool false) := Blk.cell W7.out.log 4
    have f47 := Blk.frozen W7.out.log 4
    have D7 := Lib.hid d7
    clear d7 f7
    go_wp2_with fail
    refine (HON.out _ L7 D7.out).mono ?_
    rintro e w8 ⟨rfl, rfl⟩
    go_wp2
    go_ret
    exact ⟨rfl, Ap.below B1.out (W7.out.set (Blk.set W7.out.log 4 (.bool true)))⟩
/-- As Ap.then, at the lay that is known. -/
theorem Ap.then2 {w w1 w' : World} {base D Lb : Nat} {d d1 d' : Dk} {L L1 : Lay} {last cnt : Nat} {br : Bool} (h : Ap w base D Lb d L last cnt br d1 w1) (hd : DkAt w1 base D d1 L1) (hf : ∀ x, Foot D d1.files L1 x → Foot D d.files L x ∨ w.heap.size ≤ x) (h2 : Went w1 base D d1 L1 d' w') : Ap w base D Lb d L last cnt br d' w' := by
  obtain ⟨l, _, o⟩ := h
  obtain ⟨L2, a2, b2, c2⟩ := h2
  refine ⟨l.keep (b2.block Lb (Blk.lt l) (l.foot hd)), ⟨L2, a2, fun x hx => ?_⟩, o.trans b2 (fun g hg hs => ?_)⟩
  · rcases c2 x hx with h | h
    · exact hf x h
    · exact .inr (Nat.le_trans o.size h)
  · rcases hf g hs with h | h
    · exact .inr h
    · omega

set_option linter.unusedVariables false in
set_option maxHeartbeats 4000000 in
set_option maxRecDepth 100000 in
theorem append_yes {w : World} {base D Lb cnt : Nat} {d : Dk} {L : Lay} {gs : List (List ByteArray)} (hl : LgAt w Lb D (gs.length - 1) cnt false) (hd : DkAt w base D d L) (hs : Segs d.files gs ByteArray.empty) (hg : gs.length ≤ 59) (hc : cnt ≤ 1000000) (r : ByteArray) (hr : r.size ≤ 65535) (hlen : d.files.length ≤ 1000000) (hroom : usedF d.files + (8 + r.size) ≤ d.room) (hb : (begD d).1 = true) (hb2 : (begD (laidD d (segN (nextL gs)) (sealB r))).1 = true) :
    Calls Tryz.prog 45 #[.pointer (some ⟨Lb, 0, none⟩), .string r] w fun e w' => e = .returned (.int .i64 0) ∧ Ap w base D Lb d L (nextL gs) (cnt + 1) false (syncedD (laidD d (segN (nextL gs)) (sealB r)) (segN (nextL gs))) w' := by
  have hnl := nextL_le gs
  have HSL := Lib.hid (fun W => sealed_yes r hr W)
  have HNX := Lib.hid (show ∀ (W : World) (h1 : LgAt W Lb D (gs.length - 1) cnt false) (h2 : DkAt W base D d L), Calls Tryz.prog 58 #[.pointer (some ⟨Lb, 0, none⟩)] W fun e w' => e = .returned (.int .i64 ((nextL gs : Nat) : Int)) ∧ ∃ m, w' = W.drewN m by
    intro W h1 h2
    have h0 := next_any h1 h2 (by omega)
    rw [next_on hs (beg_on hb)] at h0; exact h0)
  have HSG := Lib.hid (fun (W : World) (h1 : LgAt W Lb D (gs.length - 1) cnt false) => segment_any h1 (nextL gs) (by omega))
  have HAP := Lib.hid (show ∀ (W : World) (h2 : DkAt W base D d L), Calls Tryz.prog 59 #[.pointer (some ⟨D, 0, none⟩), .string (segN (nextL gs)), .string (sealB r)] W fun e w' => e = .returned (.int .i64 0) ∧ Went W base D d L (laidD d (segN (nextL gs)) (sealB r)) w' by
    intro W h2
    have h0 := append_any h2 (segN (nextL gs)) (sealB r) (by have := segN_size (nextL gs) (by omega); unfold maxLen; omega) (by rw [sealB_size]; unfold maxLen; omega) (by omega)
    rw [beg_append hb (segN_ok _ (by omega)) (by rw [sealB_size]; exact hroom)] at h0; exact h0)
  have HSY := Lib.hid (show ∀ (W : World) (L' : Lay) (h2 : DkAt W base D (laidD d (segN (nextL gs)) (sealB r)) L'), Calls Tryz.prog 61 #[.pointer (some ⟨D, 0, none⟩), .string (segN (nextL gs))] W fun e w' => e = .returned (.int .i64 0) ∧ Went W base D (laidD d (segN (nextL gs)) (sealB r)) L' (syncedD (laidD d (segN (nextL gs)) (sealB r)) (segN (nextL gs))) w' by
    intro W L' h2
    have h0 := sync_any h2 (segN (nextL gs)) (by have := segN_size (nextL gs) (by omega); unfold maxLen; omega)
    obtain ⟨f, hf⟩ := atF_put_some hd.good.sorted (segN (nextL gs)) (sealB r)
    rw [show syncD (laidD d (segN (nextL gs)) (sealB r)) (segN (nextL gs)) = (0, syncedD (laidD d (segN (nextL gs)) (sealB r)) (segN (nextL gs))) from beg_synced hb2 (segN_ok _ (by omega)) (f := f) hf] at h0
    exact h0)
  have HL := Lib.hid hl
  have HD := Lib.hid hd
  generalize hd2 : (syncedD (laidD d (segN (nextL gs)) (sealB r)) (segN (nextL gs))) = d2 at *
  generalize laidD d (segN (nextL gs)) (sealB r) = dl at *
  generalize sealB r = sr at *
  generalize segN (nextL gs) = sg at *
  generalize nextL gs = K at *
  clear hl hd hb hb2 hs hd2
  go_enter Tryz.func45, Tryz.ntmps45
  go_wp2_with fail
  refine (HSL.out _).mono ?_
  rintro e w1 ⟨rfl, b1⟩
  have l1 := HL.out.keep (b1.block Lb (Blk.lt HL.out))
  have d1 := HD.out.below b1 (Nat.le_refl _)
  have c0 : w1.cell? ⟨Lb, 0, none⟩ = some (.pointer (some ⟨D, 0, none⟩)) := Blk.cell l1 0
  have c4 : w1.cell? ⟨Lb, 4, none⟩ = some (.bool false) := Blk.cell l1 4
  have L1 := Lib.hid l1
  have D1 := Lib.hid d1
  have B1 := Lib.hid b1
  clear l1 d1 b1
  go_wp2_with fail
  refine (HNX.out _ L1.out D1.out).mono ?_
  rintro e w2 ⟨rfl, m2, rfl⟩
  go_wp2_with fail
  go_region_law (first | (go_simp; go_at_call 47; refine (HSG.out _ (L1.out.keep (by rfl))).mono ?_; rintro e w5 ⟨rfl, m5, rfl⟩; simp only []) | (go_simp; go_at_call 59; refine (HAP.out _ (D1.out.keep (fun _ _ => by rfl))).mono ?_; rintro e w6 ⟨rfl, W6⟩; have W7 := Lib.hid (Ap.of L1.out D1.out (Went.like (w := w1) W6 rfl rfl rfl rfl)); clear W6; simp only []))
  all_goals
    obtain ⟨L7, d7, f7⟩ := W7.out.dk
    have c07 : w6.cell? ⟨Lb, 0, none⟩ = some (.pointer (some ⟨D, 0, none⟩)) := Blk.cell W7.out.log 0
    have D7 := Lib.hid d7
    have F7 := Lib.hid f7
    clear d7 f7 c0 c4
    go_wp2_with fail
    go_region_law (first | (go_simp; go_at_call 47; refine (HSG.out _ (W7.out.log.keep (by rfl))).mono ?_; rintro e w5 ⟨rfl, m5, rfl⟩; simp only []) | (go_simp; go_at_call 61; refine (HSY.out _ L7 (D7.out.keep (fun _ _ => by rfl))).mono ?_; rintro e w8 ⟨rfl, W8⟩; have A8 := Lib.hid (Ap.then2 W7.out D7.out F7.out (Went.like (w := w6) W8 rfl rfl rfl rfl)); clear W8; simp only []))
    all_goals
      have c28 : w8.cell? ⟨Lb, 2, none⟩ = some (.int .i64 ((gs.length - 1 : Nat) : Int)) := Blk.cell A8.out.log 2
      have f28 := Blk.frozen A8.out.log 2
      have c38 : w8.cell? ⟨Lb, 3, none⟩ = some (.int .i64 (cnt : Int)) := Blk.cell A8.out.log 3
      have f38 := Blk.frozen A8.out.log 3
      have HCN := Lib.hid (show (cnt : Int) + 1 = ((cnt + 1 : Nat) : Int) by omega)
      go_wp2
      go_ret
      refine ⟨rfl, Ap.below B1.out ?_⟩
      refine (A8.out.set (Blk.set A8.out.log 2 (.int .i64 (K : Int)))).set ?_
      have h9 := (Blk.set A8.out.log 2 (.int .i64 (K : Int))).set 3 (.int .i64 ((cnt : Int) + 1))
      rw [HCN.out] at h9 ⊢
      exact h9

set_option linter.unusedVariables false in
set_option maxHeartbeats 4000000 in
set_option maxRecDepth 100000 in
theorem append_under {w : World} {base D Lb cnt : Nat} {d : Dk} {L : Lay} {gs : List (List ByteArray)} (hl : LgAt w Lb D (gs.length - 1) cnt false) (hd : DkAt w base D d L) (hs : Segs d.files gs ByteArray.empty) (hg : gs.length ≤ 59) (hc : cnt ≤ 1000000) (r : ByteArray) (hr : r.size ≤ 65535) (hlen : d.files.length ≤ 1000000) (hroom : usedF d.files + (8 + r.size) ≤ d.room) (hb : (begD d).1 = true) (hb2 : (begD (laidD d (segN (nextL gs)) (sealB r))).1 = false) :
    Calls Tryz.prog 45 #[.pointer (some ⟨Lb, 0, none⟩), .string r] w fun e w' => e = .returned (.int .i64 6) ∧ Ap w base D Lb d L (gs.length - 1) cnt true (begD (laidD d (segN (nextL gs)) (sealB r))).2 w' := by
  have hnl := nextL_le gs
  have HSL := Lib.hid (fun W => sealed_yes r hr W)
  have HNX := Lib.hid (show ∀ (W : World) (h1 : LgAt W Lb D (gs.length - 1) cnt false) (h2 : DkAt W base D d L), Calls Tryz.prog 58 #[.pointer (some ⟨Lb, 0, none⟩)] W fun e w' => e = .returned (.int .i64 ((nextL gs : Nat) : Int)) ∧ ∃ m, w' = W.drewN m by
    intro W h1 h2
    have h0 := next_any h1 h2 (by omega)
    rw [next_on hs (beg_on hb)] at h0; exact h0)
  have HSG := Lib.hid (fun (W : World) (h1 : LgAt W Lb D (gs.length - 1) cnt false) => segment_any h1 (nextL gs) (by omega))
  have HAP := Lib.hid (show ∀ (W : World) (h2 : DkAt W base D d L), Calls Tryz.prog 59 #[.pointer (some ⟨D, 0, none⟩), .string (segN (nextL gs)), .string (sealB r)] W fun e w' => e = .returned (.int .i64 0) ∧ Went W base D d L (laidD d (segN (nextL gs)) (sealB r)) w' by
    intro W h2
    have h0 := append_any h2 (segN (nextL gs)) (sealB r) (by have := segN_size (nextL gs) (by omega); unfold maxLen; omega) (by rw [sealB_size]; unfold maxLen; omega) (by omega)
    rw [beg_append hb (segN_ok _ (by omega)) (by rw [sealB_size]; exact hroom)] at h0; exact h0)
  have HSY := Lib.hid (show ∀ (W : World) (L' : Lay) (h2 : DkAt W base D (laidD d (segN (nextL gs)) (sealB r)) L'), Calls Tryz.prog 61 #[.pointer (some ⟨D, 0, none⟩), .string (segN (nextL gs))] W fun e w' => e = .returned (.int .i64 6) ∧ Went W base D (laidD d (segN (nextL gs)) (sealB r)) L' (begD (laidD d (segN (nextL gs)) (sealB r))).2 w' by
    intro W L' h2
    have h0 := sync_any h2 (segN (nextL gs)) (by have := segN_size (nextL gs) (by omega); unfold maxLen; omega)
    rw [beg_sync hb2] at h0
    exact h0)
  have HL := Lib.hid hl
  have HD := Lib.hid hd
  generalize hd2 : (begD (laidD d (segN (nextL gs)) (sealB r))).2 = d2 at *
  generalize laidD d (segN (nextL gs)) (sealB r) = dl at *
  generalize sealB r = sr at *
  generalize segN (nextL gs) = sg at *
  generalize nextL gs = K at *
  clear hl hd hb hb2 hs hd2
  go_enter Tryz.func45, Tryz.ntmps45
  go_wp2_with fail
  refine (HSL.out _).mono ?_
  rintro e w1 ⟨rfl, b1⟩
  have l1 := HL.out.keep (b1.block Lb (Blk.lt HL.out))
  have d1 := HD.out.below b1 (Nat.le_refl _)
  have c0 : w1.cell? ⟨Lb, 0, none⟩ = some (.pointer (some ⟨D, 0, none⟩)) := Blk.cell l1 0
  have c4 : w1.cell? ⟨Lb, 4, none⟩ = some (.bool false) := Blk.cell l1 4
  have L1 := Lib.hid l1
  have D1 := Lib.hid d1
  have B1 := Lib.hid b1
  clear l1 d1 b1
  go_wp2_with fail
  refine (HNX.out _ L1.out D1.out).mono ?_
  rintro e w2 ⟨rfl, m2, rfl⟩
  go_wp2_with fail
  go_region_law (first | (go_simp; go_at_call 47; refine (HSG.out _ (L1.out.keep (by rfl))).mono ?_; rintro e w5 ⟨rfl, m5, rfl⟩; simp only []) | (go_simp; go_at_call 59; refine (HAP.out _ (D1.out.keep (fun _ _ => by rfl))).mono ?_; rintro e w6 ⟨rfl, W6⟩; have W7 := Lib.hid (Ap.of L1.out D1.out (Went.like (w := w1) W6 rfl rfl rfl rfl)); clear W6; simp only []))
  all_goals
    obtain ⟨L7, d7, f7⟩ := W7.out.dk
    have c07 : w6.cell? ⟨Lb, 0, none⟩ = some (.pointer (some ⟨D, 0, none⟩)) := Blk.cell W7.out.log 0
    have D7 := Lib.hid d7
    have F7 := Lib.hid f7
    clear d7 f7 c0 c4
    go_wp2_with fail
    go_region_law (first | (go_simp; go_at_call 47; refine (HSG.out _ (W7.out.log.keep (by rfl))).mono ?_; rintro e w5 ⟨rfl, m5, rfl⟩; simp only []) | (go_simp; go_at_call 61; refine (HSY.out _ L7 (D7.out.keep (fun _ _ => by rfl))).mono ?_; rintro e w8 ⟨rfl, W8⟩; have A8 := Lib.hid (Ap.then2 W7.out D7.out F7.out (Went.like (w := w6) W8 rfl rfl rfl rfl)); clear W8; simp only []))
    all_goals
      have c48 : w8.cell? ⟨Lb, 4, none⟩ = some (.bool false) := Blk.cell A8.out.log 4
      have f48 := Blk.frozen A8.out.log 4
      go_wp2
      go_ret
      exact ⟨rfl, Ap.below B1.out (A8.out.set (Blk.set A8.out.log 4 (.bool true)))⟩
end Go.Proofs.YtffnkomnldgcaaaGreatDoor
