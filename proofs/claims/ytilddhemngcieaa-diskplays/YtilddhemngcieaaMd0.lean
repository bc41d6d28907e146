/-
  The document's model of a disk, as the law lays it in memory: its block, and its row of files, three cells each.
-/
import Derived.Test.YtilddhemngcieaaAOpen2
namespace Go.Pal.Dk
open Go.Pal
def fileV (f : Fl) : List Value := [.string f.name, .string f.data, .int .i64 (f.safe : Int)]
def cellsF : List Fl → List Value
  | [] => []
  | f :: r => fileV f ++ cellsF r
theorem cellsF_length : ∀ l : List Fl, (cellsF l).length = l.length * 3
  | [] => rfl
  | f :: r => by simp only [cellsF, fileV, List.length_append, List.length_cons, List.length_nil, cellsF_length r]; omega
theorem cellsF_append : ∀ l m : List Fl, cellsF (l ++ m) = cellsF l ++ cellsF m
  | [], m => rfl
  | f :: r, m => by simp [cellsF, cellsF_append r m]
theorem cellsF_get : ∀ (l : List Fl) (i : Nat) (hi : i < l.length) (j : Nat), j < 3 → (cellsF l)[i * 3 + j]? = (fileV l[i])[j]?
  | f :: r, 0, _, j, hj => by
    simp only [cellsF, Nat.zero_mul, Nat.zero_add]
    rw [List.getElem?_append_left (by simp [fileV]; omega)]; rfl
  | f :: r, i + 1, hi, j, hj => by
    simp only [cellsF]
    rw [List.getElem?_append_right (by simp [fileV]; omega)]
    rw [show (i + 1) * 3 + j - (fileV f).length = i * 3 + j by simp [fileV]; omega]
    exact cellsF_get r i (by simpa using hi) j hj
theorem cellsF_set : ∀ (l : List Fl) (i : Nat) (hi : i < l.length) (j : Nat) (x : Value) (g : Fl), j < 3 → (fileV l[i]).set j x = fileV g → (cellsF l).set (i * 3 + j) x = cellsF (l.set i g)
  | f :: r, 0, _, j, x, g, hj, h => by
    simp only [cellsF, Nat.zero_mul, Nat.zero_add, List.set_cons_zero]
    rw [List.set_append_left _ _ (by simp [fileV]; omega)]
    congr 1
  | f :: r, i + 1, hi, j, x, g, hj, h => by
    simp only [cellsF, List.set_cons_succ]
    rw [List.set_append_right _ _ (by simp [fileV]; omega)]
    rw [show (i + 1) * 3 + j - (fileV f).length = i * 3 + j by simp [fileV]; omega]
    rw [cellsF_set r i (by simpa using hi) j x g hj h]
theorem cellsF_take (l : List Fl) (k : Nat) : (cellsF l).take (k * 3) = cellsF (l.take k) := by
  by_cases h : k ≤ l.length
  · have e : cellsF l = cellsF (l.take k) ++ cellsF (l.drop k) := by rw [← cellsF_append, List.take_append_drop]
    rw [e, List.take_append_of_le_length (by rw [cellsF_length, List.length_take]; omega)]
    exact List.take_of_length_le (by rw [cellsF_length, List.length_take]; omega)
  · rw [List.take_of_length_le (by rw [cellsF_length]; omega), List.take_of_length_le (by omega)]
theorem cellsF_drop (l : List Fl) (k : Nat) (h : k ≤ l.length) : (cellsF l).drop (k * 3) = cellsF (l.drop k) := by
  have e : cellsF l = cellsF (l.take k) ++ cellsF (l.drop k) := by rw [← cellsF_append, List.take_append_drop]
  rw [e, List.drop_append_of_le_length (by rw [cellsF_length, List.length_take]; omega)]
  rw [List.drop_of_length_le (by rw [cellsF_length, List.length_take]; omega)]; rfl
theorem cellsF_one (l : List Fl) : ∀ u ∈ cellsF l, u.oneCell' = true := by
  induction l with
  | nil => intro u hu; cases hu
  | cons f r ih =>
    intro u hu
    simp only [cellsF, List.mem_append] at hu
    rcases hu with h | h
    · simp only [fileV, List.mem_cons, List.not_mem_nil, or_false] at h
      rcases h with rfl | rfl | rfl <;> rfl
    · exact ih u h
theorem used_take (l : List Fl) (k : Nat) (h : k < l.length) : usedF (l.take (k + 1)) = usedF (l.take k) + l[k].data.size := by
  rw [List.take_succ_eq_append_getElem h]
  unfold usedF
  rw [List.map_append, List.sum_append]
  simp
theorem used_take_le (l : List Fl) (k : Nat) : usedF (l.take k) ≤ usedF l := by
  have e : usedF l = usedF (l.take k) + usedF (l.drop k) := by
    conv => lhs; rw [← List.take_append_drop k l]
    unfold usedF
    rw [List.map_append, List.sum_append]
  omega
end Go.Pal.Dk
namespace Go.Proofs.Ytilddhemngcieaa
open Go.RowKit Go.Pal Go.Pal.Dk

theorem own3_cell {w : World} {base : Nat} {t : TypeId} {g n cap : Nat} {l : List Value} (h : w.ownsRow base t 3 (.slice (some ⟨g, 0, none⟩) n cap) n l) (k : Nat) (hk : k < n * 3) : w.cell? ⟨g, k, none⟩ = l[k]? ∧ w.frozen? ⟨g, k, none⟩ = false := by
  rcases h.2 with ⟨h1, _⟩ | ⟨g', cap', cur, e, _, hh, _, _, _, ht⟩
  · cases h1
  · cases e
    refine ⟨?_, by simp [World.frozen?, hh]⟩
    have e1 : w.cell? ⟨g, k, none⟩ = cur.toList[k]? := by simp [World.cell?, hh]
    rw [e1, ← ht, List.getElem?_take_of_lt (by omega)]
theorem own3_set {w : World} {base : Nat} {t : TypeId} {g n cap : Nat} {l : List Value} (h : w.ownsRow base t 3 (.slice (some ⟨g, 0, none⟩) n cap) n l) (k : Nat) (x : Value) : (w.setCell ⟨g, k, none⟩ x).ownsRow base t 3 (.slice (some ⟨g, 0, none⟩) n cap) n (l.set k x) := by
  refine ⟨by simpa using h.1, .inr ?_⟩
  rcases h.2 with ⟨h1, _⟩ | ⟨g', cap', cur, e, hb, hh, h3, h4, h5, ht⟩
  · cases h1
  · cases e
    refine ⟨g, cap, cur.setIfInBounds k x, rfl, hb, ?_, h3, h4, by simpa using h5, ?_⟩
    · simp [World.setCell, Array.getElem?_modify, hh]
    · rw [← ht, Array.toList_setIfInBounds, List.take_set]
theorem row3_form {w : World} {base n : Nat} {t : TypeId} {v : Value} {l : List Value} (h : w.ownsRow base t 3 v n l) : ∃ p cap, v = .slice p n cap ∧ n ≤ cap ∧ cap ≤ maxLen := by
  rcases h.2 with ⟨rfl, rfl⟩ | ⟨g, cap, cur, rfl, _, _, h1, h2, _⟩
  · exact ⟨none, 0, rfl, Nat.le_refl _, by decide⟩
  · exact ⟨_, cap, rfl, h1, h2⟩
theorem row3_at {w : World} {base n cap : Nat} {t : TypeId} {p : Option Addr} {l : List Value} (h : w.ownsRow base t 3 (.slice p n cap) n l) (hn : 0 < n) : ∃ g, p = some ⟨g, 0, none⟩ := by
  rcases h.2 with ⟨_, h0⟩ | ⟨g, cap', cur, e, _⟩
  · omega
  · cases e; exact ⟨g, rfl⟩
theorem m_eqF {a b : ByteArray} (h : a ≠ b) : (a.toList == b.toList) = false := by
  cases hc : (a.toList == b.toList)
  · rfl
  · exact absurd (ByteArray.ext_iff.2 (Array.toList_inj.1 (by rw [← ByteArray.toList_eq, ← ByteArray.toList_eq]; simpa using hc))) h
theorem m_eqT {a : ByteArray} : (a.toList == a.toList) = true := by simp
/-- What the law's model is in memory. -/
structure MdAt (w : World) (base M : Nat) (d : Dk) (v : Value) (left : Nat) : Prop where
  blk : Blk w M 45 [.int .i64 (d.room : Int), v, .bool (!d.on), .bool d.arm.isSome, .int .i64 (left : Int)]
  row : w.ownsRow base 55 3 v d.files.length (cellsF d.files)
  small : left ≤ 9223372036854775807
  arm : ∀ k, d.arm = some k → left = k
  mbase : base ≤ M
def MFoot (M : Nat) (v : Value) (g : Nat) : Prop := g = M ∨ v.ownBlock = some g
theorem MdAt.ne {w : World} {base M : Nat} {d : Dk} {v : Value} {left : Nat} (h : MdAt w base M d v left) : v.ownBlock ≠ some M := by
  intro e
  have h1 := h.blk
  obtain ⟨_, _, cur, h2⟩ := own_lt h.row e
  unfold Blk at h1
  rw [h1] at h2
  injection h2 with h2
  injection h2 with _ h3
  exact absurd h3 (by decide)
theorem MdAt.keep {w w' : World} {base M : Nat} {d : Dk} {v : Value} {left : Nat} (h : MdAt w base M d v left) (hk : ∀ g, MFoot M v g → w'.heap[g]? = w.heap[g]?) : MdAt w' base M d v left :=
  ⟨(hk M (.inl rfl)).trans h.blk, own_kept h.row (fun g hg => hk g (.inr hg)), h.small, h.arm, h.mbase⟩
theorem MdAt.lt {w : World} {base M : Nat} {d : Dk} {v : Value} {left : Nat} (h : MdAt w base M d v left) {g : Nat} (hg : MFoot M v g) : g < w.heap.size := by
  rcases hg with rfl | hg
  · exact h.blk.lt
  · exact (own_lt h.row hg).1
theorem MdAt.base {w : World} {base M : Nat} {d : Dk} {v : Value} {left : Nat} (h : MdAt w base M d v left) {g : Nat} (hg : MFoot M v g) : base ≤ g := by
  rcases hg with rfl | hg
  · exact h.mbase
  · exact (own_lt h.row hg).2.1
theorem MdAt.below {w w' : World} {base M : Nat} {d : Dk} {v : Value} {left : Nat} (h : MdAt w base M d v left) {n : Nat} (hb : Below n w w') (hn : w.heap.size ≤ n) : MdAt w' base M d v left :=
  h.keep fun g hg => hb.block g (Nat.lt_of_lt_of_le (h.lt hg) hn)

theorem MdAt.open {w : World} {base M : Nat} {d : Dk} {v : Value} {left : Nat} (h : MdAt w base M d v left) : ∃ p cap, v = .slice p d.files.length cap ∧ d.files.length ≤ cap ∧ cap ≤ 9223372036854775807 ∧ w.cell? ⟨M, 1, none⟩ = some (.slice p d.files.length cap) ∧
    (0 < d.files.length → ∃ g, p = some ⟨g, 0, none⟩) ∧ ∀ g, p = some ⟨g, 0, none⟩ → ∀ (k : Nat) (hk : k < d.files.length), w.cell? ⟨g, k * 3, none⟩ = some (.string d.files[k].name) ∧ w.cell? ⟨g, k * 3 + 1, none⟩ = some (.string d.files[k].data) ∧ w.cell? ⟨g, k * 3 + 2, none⟩ = some (.int .i64 (d.files[k].safe : Int)) := by
  have hb1 := h.blk.cell 1
  simp only [List.getElem?_cons_zero, List.getElem?_cons_succ] at hb1
  obtain ⟨p, cap, rfl, hc, hcm⟩ := row3_form h.row
  unfold maxLen at hcm
  refine ⟨p, cap, rfl, hc, by omega, hb1, fun hn => row3_at h.row hn, fun g e k hk => ?_⟩
  have h1 := h.row
  rw [e] at h1
  refine ⟨?_, ?_, ?_⟩
  · rw [(own3_cell h1 (k * 3) (by omega)).1]; exact cellsF_get d.files k hk 0 (by omega)
  · rw [(own3_cell h1 (k * 3 + 1) (by omega)).1]; exact cellsF_get d.files k hk 1 (by omega)
  · rw [(own3_cell h1 (k * 3 + 2) (by omega)).1]; exact cellsF_get d.files k hk 2 (by omega)

set_option maxHeartbeats 400000 in
set_option maxRecDepth 100000 in
theorem mfind_hit {w : World} {base M : Nat} {d : Dk} {v : Value} {left : Nat} (h : MdAt w base M d v left) (n : ByteArray) (i : Nat) (hi : i < d.files.length) (hn : d.files[i].name = n) (hs : SortedF d.files) :
    Calls Try.prog 27 #[.pointer (some ⟨M, 0, none⟩), .string n] w fun e w' => e = .returned (.int .i64 i) ∧ w' = w := by
  obtain ⟨p, cap, rfl, _, hcm, hb1, hp, hc⟩ := h.open
  have HU := Lib.hid (show ∀ k, k < i → ∀ hk : k < d.files.length, d.files[k].name ≠ n by
    intro k hki hk e
    have := List.pairwise_iff_getElem.1 hs k i hk hi hki
    rw [e, ← hn] at this
    exact ltB_irrefl _ this)
  clear h hs
  obtain ⟨g, rfl⟩ := hp (by omega)
  have HC' := Lib.hid (fun k hk => (hc g rfl k hk).1)
  clear hc hp
  go_enter Try.func27, Try.ntmps27
  go_wp2
  go_loop [5] (fun j => ∃ k : Nat, k ≤ i ∧ j = .int .i64 k) (fun j => i - (intOf j).toNat)
  case atStart => exact ⟨0, Nat.zero_le _, rfl⟩
  case round =>
    obtain ⟨k, hk, rfl⟩ := hrel
    have hkl : k < d.files.length := by omega
    have ck := HC'.out k hkl
    by_cases hlt : k < i
    · have hne := m_eqF (HU.out k hlt hkl)
      generalize d.files[k].name = nm at *
      go_wp2
      go_round
      case rel => exact ⟨k + 1, by omega, by go_num⟩
      case measure => simp [intOf]; omega
    · obtain rfl : k = i := by omega
      rw [hn] at ck
      have heq := m_eqT (a := n)
      go_wp2
      go_ret
      exact ⟨rfl, rfl⟩
set_option maxHeartbeats 400000 in
set_option maxRecDepth 100000 in
theorem mfind_miss {w : World} {base M : Nat} {d : Dk} {v : Value} {left : Nat} (h : MdAt w base M d v left) (n : ByteArray) (hn : atF d.files n = none) :
    Calls Try.prog 27 #[.pointer (some ⟨M, 0, none⟩), .string n] w fun e w' => e = .returned (.int .i64 (-1)) ∧ w' = w := by
  obtain ⟨p, cap, rfl, _, hcm, hb1, hp, hc⟩ := h.open
  have HU := Lib.hid (show ∀ k (hk : k < d.files.length), d.files[k].name ≠ n from fun k hk => atF_none hn _ (List.getElem_mem hk))
  have HC := Lib.hid hc
  have HP := Lib.hid hp
  clear h hc hp hn
  go_enter Try.func27, Try.ntmps27
  go_wp2
  go_loop [5] (fun j => ∃ k : Nat, k ≤ d.files.length ∧ j = .int .i64 k) (fun j => d.files.length - (intOf j).toNat)
  case atStart => exact ⟨0, Nat.zero_le _, rfl⟩
  case round =>
    obtain ⟨k, hk, rfl⟩ := hrel
    by_cases hlt : k < d.files.length
    · obtain ⟨g, rfl⟩ := HP.out (by omega)
      have ck := (HC.out g rfl k hlt).1
      have hne := m_eqF (HU.out k hlt)
      generalize d.files[k].name = nm at *
      go_wp2
      go_round
      case rel => exact ⟨k + 1, by omega, by go_num⟩
      case measure => simp [intOf]; omega
    · go_wp2
      go_ret
      exact ⟨rfl, rfl⟩
set_option maxHeartbeats 400000 in
set_option maxRecDepth 100000 in
theorem mused_any {w : World} {base M : Nat} {d : Dk} {v : Value} {left : Nat} (h : MdAt w base M d v left) (hu : usedF d.files ≤ 4194304) :
    Calls Try.prog 48 #[.pointer (some ⟨M, 0, none⟩)] w fun e w' => e = .returned (.int .i64 (usedF d.files : Int)) ∧ w' = w := by
  obtain ⟨p, cap, rfl, _, hcm, hb1, hp, hc⟩ := h.open
  have HC := Lib.hid hc
  have HP := Lib.hid hp
  have HT := Lib.hid (used_take d.files)
  have HL := Lib.hid (used_take_le d.files)
  have HA := Lib.hid (show d.files.take d.files.length = d.files from List.take_length)
  clear h hc hp
  go_enter Try.func48, Try.ntmps48
  go_wp2
  go_loop [3, 4] (fun x j => ∃ k : Nat, k ≤ d.files.length ∧ j = .int .i64 k ∧ x = .int .i64 (usedF (d.files.take k) : Int)) (fun _ j => d.files.length - (intOf j).toNat)
  case atStart => exact ⟨0, Nat.zero_le _, rfl, rfl⟩
  case round =>
    obtain ⟨k, hk, rfl, rfl⟩ := hrel
    by_cases hlt : k < d.files.length
    · obtain ⟨g, rfl⟩ := HP.out (by omega)
      have ck := (HC.out g rfl k hlt).2.1
      have HT' := Lib.hid (HT.out k hlt)
      have l1 := HL.out k
      have l2 := HL.out (k + 1)
      have l3 := HT.out k hlt
      generalize d.files[k].data = dt at *
      go_wp2
      go_round
      case rel => exact ⟨k + 1, by omega, by go_num, by rw [HT'.out]; go_num⟩
      case measure => simp [intOf]; omega
    · have hkn : k = d.files.length := by omega
      have l1 := HL.out k
      go_wp2
      go_ret
      exact ⟨rfl, rfl⟩
end Go.Proofs.Ytilddhemngcieaa
