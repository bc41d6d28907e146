/-
  Contracts of package disk: Names.
-/
import Derived.Test.YtilddhemngcieaaDk10
namespace Go.Proofs.Ytilddhemngcieaa
open Go.RowKit Go.Pal Go.Pal.Dk Go.Maps Go.Sort

theorem own_cell {w : World} {base : Nat} {t : TypeId} {g n cap : Nat} {l : List Value} (h : w.ownsRow base t 1 (.slice (some ⟨g, 0, none⟩) n cap) n l) (k : Nat) (hk : k < n) : w.cell? ⟨g, k, none⟩ = l[k]? ∧ w.frozen? ⟨g, k, none⟩ = false := by
  rcases h.2 with ⟨h1, _⟩ | ⟨g', cap', cur, e, _, hh, _, _, _, ht⟩
  · cases h1
  · cases e
    refine ⟨?_, by simp [World.frozen?, hh]⟩
    have e1 : w.cell? ⟨g, k, none⟩ = cur.toList[k]? := by simp [World.cell?, hh]
    rw [e1, ← ht, List.getElem?_take_of_lt (by omega)]
theorem own_same {w : World} {base : Nat} {t : TypeId} {g n cap : Nat} {l : List Value} (h : w.ownsRow base t 1 (.slice (some ⟨g, 0, none⟩) n cap) n l) {k : Nat} {x : Value} (hx : w.cell? ⟨g, k, none⟩ = some x) : (w.setCell ⟨g, k, none⟩ x).ownsRow base t 1 (.slice (some ⟨g, 0, none⟩) n cap) n l := by
  refine own_kept h (fun b hb => ?_)
  obtain rfl : g = b := by simpa [Value.ownBlock] using hb
  rcases h.2 with ⟨h1, _⟩ | ⟨g', cap', cur, e, _, hh, _⟩
  · cases h1
  · cases e
    have e1 : cur[k]? = some x := by have := hx; simp [World.cell?, hh] at this; exact this
    obtain ⟨hlt, e2⟩ := Array.getElem?_eq_some_iff.1 e1
    have e3 : cur.setIfInBounds k x = cur := by
      apply Array.ext
      · simp
      · intro i h1 h2
        by_cases hi : k = i
        · subst hi; simp [e2]
        · rw [Array.getElem_setIfInBounds]; simp [hi]; exact h2
    simp [World.setCell, Array.getElem?_modify, hh, e3]
theorem namesV_get (l : List Fl) (k : Nat) (h : k < l.length) : (namesV l)[k]? = some (.string l[k].name) := by simp [namesV, h]

set_option maxHeartbeats 1000000 in
set_option maxRecDepth 100000 in
theorem names_any {w : World} {base D : Nat} {d : Dk} {L : Lay} (h : DkAt w base D d L) (hlen : d.files.length ≤ 1000000000) :
    Calls Try.prog 34 #[.pointer (some ⟨D, 0, none⟩)] w fun e w' => (∃ v, e = .returned v ∧ w'.ownsRow w.heap.size 9 1 v d.files.length (namesV d.files)) ∧ Below w.heap.size w w' := by
  have HR := Lib.hid (rising_any h hlen)
  have HCL := Lib.hid (fun (n : ByteArray) (hn : n.size ≤ 32) W => clone_any n W (by omega))
  have HNM := Lib.hid h.good.names
  clear h
  generalize hl : d.files = l at *
  clear hl
  go_enter Try.func34, Try.ntmps34
  go_wp2_with fail
  refine HR.out.mono ?_
  rintro e w1 ⟨⟨v, rfl, hown⟩, hb⟩
  have hform := hown.2
  obtain ⟨p, cap, rfl, hcap, hcm⟩ := row_form hown
  unfold maxLen at hcm
  clear HR
  have O1 := Lib.hid hown
  have B1 := Lib.hid hb
  have HF := Lib.hid hform
  clear hown hb hform
  go_wp2
  go_loopw [10] (fun i wr => ∃ k : Nat, k ≤ l.length ∧ i = .int .i64 k ∧ wr.ownsRow w.heap.size 9 1 (.slice p l.length cap) l.length (namesV l) ∧ Below w.heap.size w wr) (fun i _ => l.length - (intOf i).toNat)
  case atStart => exact ⟨0, Nat.zero_le _, rfl, O1.out, B1.out⟩
  case round =>
    obtain ⟨k, hk, rfl, ho, hbr⟩ := hrel
    by_cases hlt : k < l.length
    · rcases HF.out with ⟨_, h0⟩ | ⟨g, cap', cur, e, _⟩
      · omega
      · cases e
        obtain ⟨ck, fk⟩ := own_cell ho k hlt
        rw [namesV_get l k hlt] at ck
        have hns := HNM.out l[k] (List.getElem_mem hlt)
        have HC := Lib.hid (HCL.out l[k].name hns)
        generalize l[k].name = nm at *
        have HO := Lib.hid ho
        have HB := Lib.hid hbr
        clear ho hbr
        go_wp2_with fail
        refine (HC.out _).mono ?_
        rintro e w2 ⟨rfl, b2⟩
        have hg : g < wr.heap.size := (own_lt HO.out (g := g) rfl).1
        have blk : w2.heap[g]? = wr.heap[g]? := b2.block g hg
        have ck2 := (World.cell?_of_block (a := ⟨g, k, none⟩) blk).trans ck
        have fk2 := (World.frozen?_of_block (a := ⟨g, k, none⟩) blk).trans fk
        have hgb : w.heap.size ≤ g := (own_lt HO.out (g := g) rfl).2.1
        have O2 := Lib.hid (own_same (own_kept HO.out (w' := w2) (fun b hb => by obtain rfl : g = b := by simpa [Value.ownBlock] using hb
                                                                                 exact blk)) ck2)
        have B2 := Lib.hid ((HB.out.trans (b2.mono HB.out.size)).setCell (p := ⟨g, k, none⟩) hgb (.string nm))
        clear blk b2 ck fk
        go_wp2
        go_roundw
        case rel => exact ⟨k + 1, by omega, by go_num, O2.out, B2.out⟩
        case measure => simp [intOf]; omega
    · have HO := Lib.hid ho
      have HB := Lib.hid hbr
      clear ho hbr
      go_wp2
      go_ret
      exact ⟨⟨_, rfl, HO.out⟩, HB.out⟩
set_option maxHeartbeats 400000 in
set_option maxRecDepth 100000 in
theorem rising_nil (w : World) :
    Calls Try.prog 52 #[.pointer none] w fun e w' => e = .returned (.slice none 0 0) ∧ w' = w := by
  go_enter Try.func52, Try.ntmps52
  go_wp2
  go_ret
  exact ⟨rfl, rfl⟩
set_option maxHeartbeats 400000 in
set_option maxRecDepth 100000 in
theorem names_nil (w : World) :
    Calls Try.prog 34 #[.pointer none] w fun e w' => e = .returned (.slice none 0 0) ∧ w' = w := by
  go_enter Try.func34, Try.ntmps34
  go_wp2_with (go_at_call 52; refine (rising_nil _).mono ?_; rintro e w' ⟨rfl, rfl⟩)
  refine wp_loop_rounds 1 ?_; rw [rounds_succ]
  go_wp2
  go_ret
  exact ⟨rfl, rfl⟩
end Go.Proofs.Ytilddhemngcieaa
