/-
  Contracts of package store: Enter, Event, Spend, Queue, Done.
-/
import Derived.Test.YtffnkomnldgcaaaGreatDoorSo5
import Derived.Shelf.Abstract
namespace Go.Proofs.YtffnkomnldgcaaaGreatDoor
open Go.RowKit Go.Pal Go.Pal.Dk Go.Pal.Fr Go.Pal.Cr

/-- What an act needs of a store. -/
structure Ready (d : Dk) (gs : List (List ByteArray)) (s : SS) : Prop where
  segs : Segs d.files gs ByteArray.empty
  few : gs.length ≤ 59
  flat : gs.flatten.length ≤ 1000000
  len : d.files.length ≤ 1000000
  sz : SzS s 1000000
/-- What an act leaves. -/
def ActP (w : World) (base B Lb D : Nat) (d : Dk) (L : Lay) (gs : List (List ByteArray)) (s : SS) (ev q : Value) (kind : Int) (t : ByteArray) (n : Int) (e : Ending) (w' : World) : Prop :=
  ((doesR s kind t n).1 ≠ 0 → e = .returned (.int .i64 (doesR s kind t n).1) ∧ Below w.heap.size w w') ∧ ((doesR s kind t n).1 = 0 → LaidP w base B Lb D d L gs s (afterR s kind t n) ev q (doesR s kind t n).2 e w')
theorem LaidP.pre {w w1 w' : World} {base B Lb D : Nat} {d : Dk} {L : Lay} {gs : List (List ByteArray)} {s s' : SS} {ev q : Value} {r : ByteArray} {e : Ending} (hb : Below w.heap.size w w1) (h : LaidP w1 base B Lb D d L gs s s' ev q r e w') : LaidP w base B Lb D d L gs s s' ev q r e w' := by
  rcases h with ⟨d', a, b, c⟩ | ⟨d', a, b, c⟩
  · exact .inl ⟨d', a, Did.pre hb b, c⟩
  · exact .inr ⟨d', a, Did.pre hb b, c⟩
theorem size_ne {a : ByteArray} (h : a.size ≠ 0) : (a.toList == []) = false ∧ ¬ a.toList = [] := by
  have := name_some a (by omega)
  exact ⟨by simpa using this, this⟩
theorem room_size {s : SS} {kind : Int} {t : ByteArray} {n : Int} (h : (doesR s kind t n).1 = 0) : (doesR s kind t n).2.size ≤ 65535 := by
  unfold doesR at h ⊢
  split at h
  · rename_i h0
    rw [if_pos h0]
    split at h
    · cases h
    · rename_i h1
      rw [if_neg h1]
      split at h
      · cases h
      · rename_i h2
        rw [if_neg h2, (one_rest 82 t).2.2]; omega
  · rename_i h0
    rw [if_neg h0]
    split at h
    · rename_i h1
      rw [if_pos h1]
      split at h
      · cases h
      · rename_i h2
        rw [if_neg h2, (one_rest 69 t).2.2]; omega
    · rename_i h1
      rw [if_neg h1]
      split at h
      · rename_i h2
        rw [if_pos h2]
        split at h
        · cases h
        · rename_i h3
          rw [if_neg h3, (one_rest 75 _).2.2, be_size]; omega
      · rename_i h2
        rw [if_neg h2]
        split at h
        · rename_i h3
          rw [if_pos h3]
          split at h
          · cases h
          · rename_i h4
            rw [if_neg h4]
            split at h
            · cases h
            · rename_i h5
              rw [if_neg h5, (one_rest 81 t).2.2]; omega
        · rename_i h3
          rw [if_neg h3]
          split at h
          · cases h
          · rename_i h4
            rw [if_neg h4]; decide

set_option maxHeartbeats 1000000 in
set_option maxRecDepth 100000 in
theorem enter_wrong {w : World} {base B : Nat} {p : Value} {s : SS} {ev q : Value} (h : StAt w base B p s ev q) (t : ByteArray) (rb sb : Nat) (hr : w.cell? ⟨rb, 0, none⟩ = some (.string t)) (hs : w.cell? ⟨sb, 0, none⟩ = some (.pointer (some ⟨B, 0, none⟩))) :
    Wrong w 37 #[.pointer (some ⟨rb, 0, none⟩), .pointer (some ⟨sb, 0, none⟩)] (doesR s 0 t 0).1 := by
  refine ⟨enters_of Tryz.func37 (by kernel_rfl) rfl, fun W hW => ?_⟩
  have hcell : ∀ a : Addr, W.cell? a = w.cell? a := fun a => World.cell?_of_block (by rw [hW])
  have c1 := (hcell ⟨rb, 0, none⟩).trans hr
  have c2 := (hcell ⟨sb, 0, none⟩).trans hs
  have c3 := (hcell ⟨B, 1, none⟩).trans (h.blk.cell 1)
  simp only [List.getElem?_cons_zero, List.getElem?_cons_succ] at c3
  clear hr hs
  clear h hcell hW
  by_cases h1 : t.size = 32
  · by_cases h2 : s.room.size = 0
    · have e : (doesR s 0 t 0).1 = 0 := by unfold doesR; rw [if_pos rfl, if_neg (by omega), if_neg (by omega)]
      have n0 := name_none s.room h2
      rw [e]
      go_enter Tryz.func37, Tryz.ntmps37
      go_wp2
      go_ret
      exact ⟨rfl, 0, rfl⟩
    · have e : (doesR s 0 t 0).1 = 11 := by unfold doesR; rw [if_pos rfl, if_neg (by omega), if_pos h2]
      have n0 := (size_ne h2).2
      have n1 : s.room.toList.isEmpty = false := by simpa using n0
      rw [e]
      go_enter Tryz.func37, Tryz.ntmps37
      go_wp2
      go_ret
      exact ⟨rfl, 0, rfl⟩
  · have e : (doesR s 0 t 0).1 = 1 := by unfold doesR; rw [if_pos rfl, if_pos h1]
    have n0 : ¬ ((t.size : Int) = 32) := by omega
    rw [e]
    go_enter Tryz.func37, Tryz.ntmps37
    go_wp2
    go_ret
    exact ⟨rfl, 0, rfl⟩

set_option maxHeartbeats 1000000 in
set_option maxRecDepth 100000 in
theorem event_wrong {w : World} {base B : Nat} {p : Value} {s : SS} {ev q : Value} (_ : StAt w base B p s ev q) (t : ByteArray) (rb : Nat) (hr : w.cell? ⟨rb, 0, none⟩ = some (.string t)) :
    Wrong w 38 #[.pointer (some ⟨rb, 0, none⟩)] (doesR s 1 t 0).1 := by
  refine ⟨enters_of Tryz.func38 (by kernel_rfl) rfl, fun W hW => ?_⟩
  have hcell : ∀ a : Addr, W.cell? a = w.cell? a := fun a => World.cell?_of_block (by rw [hW])
  have c1 := (hcell ⟨rb, 0, none⟩).trans hr
  clear hr
  clear hcell hW
  by_cases h1 : 65534 < t.size
  · have e : (doesR s 1 t 0).1 = 3 := by unfold doesR; rw [if_neg (by decide), if_pos rfl, if_pos h1]
    have n0 : (65534 : Int) < (t.size : Int) := by omega
    rw [e]
    go_enter Tryz.func38, Tryz.ntmps38
    go_wp2
    go_ret
    exact ⟨rfl, 0, rfl⟩
  · have e : (doesR s 1 t 0).1 = 0 := by unfold doesR; rw [if_neg (by decide), if_pos rfl, if_neg h1]
    have n0 : ¬ ((65534 : Int) < (t.size : Int)) := by omega
    rw [e]
    go_enter Tryz.func38, Tryz.ntmps38
    go_wp2
    go_ret
    exact ⟨rfl, 0, rfl⟩

set_option maxHeartbeats 1000000 in
set_option maxRecDepth 100000 in
theorem spend_wrong {w : World} {base B : Nat} {p : Value} {s : SS} {ev q : Value} (h : StAt w base B p s ev q) (n : Int) (rb sb : Nat) (hr : w.cell? ⟨rb, 0, none⟩ = some (.int .i64 n)) (hs : w.cell? ⟨sb, 0, none⟩ = some (.pointer (some ⟨B, 0, none⟩))) :
    Wrong w 40 #[.pointer (some ⟨rb, 0, none⟩), .pointer (some ⟨sb, 0, none⟩)] (doesR s 2 ByteArray.empty n).1 := by
  refine ⟨enters_of Tryz.func40 (by kernel_rfl) rfl, fun W hW => ?_⟩
  have hcell : ∀ a : Addr, W.cell? a = w.cell? a := fun a => World.cell?_of_block (by rw [hW])
  have c1 := (hcell ⟨rb, 0, none⟩).trans hr
  have c2 := (hcell ⟨sb, 0, none⟩).trans hs
  have c3 := (hcell ⟨B, 3, none⟩).trans (h.blk.cell 3)
  simp only [List.getElem?_cons_zero, List.getElem?_cons_succ] at c3
  clear hr hs
  clear h hcell hW
  by_cases h1 : n ≤ s.used
  · have e : (doesR s 2 ByteArray.empty n).1 = 1 := by unfold doesR; rw [if_neg (by decide), if_neg (by decide), if_pos rfl, if_pos (.inl h1)]
    rw [e]
    go_enter Tryz.func40, Tryz.ntmps40
    go_wp2
    go_quiet (fail)
    go_wp2
    go_ret
    exact ⟨rfl, _, rfl⟩
  · by_cases h2 : 65535 < n
    · have e : (doesR s 2 ByteArray.empty n).1 = 1 := by unfold doesR; rw [if_neg (by decide), if_neg (by decide), if_pos rfl, if_pos (.inr h2)]
      rw [e]
      go_enter Tryz.func40, Tryz.ntmps40
      go_wp2
      go_quiet (fail)
      go_wp2
      go_ret
      exact ⟨rfl, _, rfl⟩
    · have e : (doesR s 2 ByteArray.empty n).1 = 0 := by unfold doesR; rw [if_neg (by decide), if_neg (by decide), if_pos rfl, if_neg (by omega)]
      rw [e]
      go_enter Tryz.func40, Tryz.ntmps40
      go_wp2
      go_quiet (fail)
      go_wp2
      go_ret
      exact ⟨rfl, _, rfl⟩

set_option maxHeartbeats 1000000 in
set_option maxRecDepth 100000 in
theorem queue_wrong {w : World} {base B : Nat} {p : Value} {s : SS} {ev q : Value} (h : StAt w base B p s ev q) (t : ByteArray) (rb sb : Nat) (hr : w.cell? ⟨rb, 0, none⟩ = some (.string t)) (hs : w.cell? ⟨sb, 0, none⟩ = some (.pointer (some ⟨B, 0, none⟩))) :
    Wrong w 31 #[.pointer (some ⟨rb, 0, none⟩), .pointer (some ⟨sb, 0, none⟩)] (doesR s 3 t 0).1 := by
  refine ⟨enters_of Tryz.func31 (by kernel_rfl) rfl, fun W hW => ?_⟩
  have hcell : ∀ a : Addr, W.cell? a = w.cell? a := fun a => World.cell?_of_block (by rw [hW])
  have c1 := (hcell ⟨rb, 0, none⟩).trans hr
  have c2 := (hcell ⟨sb, 0, none⟩).trans hs
  have c3 := (hcell ⟨B, 4, none⟩).trans (h.blk.cell 4)
  simp only [List.getElem?_cons_zero, List.getElem?_cons_succ] at c3
  obtain ⟨qa, qc, rfl, hq1, hq2, _⟩ := h.qs.form
  clear hr hs
  clear h hcell hW
  by_cases h1 : 200 < t.size
  · have e : (doesR s 3 t 0).1 = 3 := by unfold doesR; rw [if_neg (by decide), if_neg (by decide), if_neg (by decide), if_pos rfl, if_pos h1]
    have n0 : (200 : Int) < (t.size : Int) := by omega
    rw [e]
    go_enter Tryz.func31, Tryz.ntmps31
    go_wp2
    go_ret
    exact ⟨rfl, 0, rfl⟩
  · have n0 : ¬ ((200 : Int) < (t.size : Int)) := by omega
    by_cases h2 : 4 ≤ s.queue.length
    · have e : (doesR s 3 t 0).1 = 8 := by unfold doesR; rw [if_neg (by decide), if_neg (by decide), if_neg (by decide), if_pos rfl, if_neg h1, if_pos h2]
      have n1 : (4 : Int) ≤ (s.queue.length : Int) := by omega
      rw [e]
      go_enter Tryz.func31, Tryz.ntmps31
      go_wp2
      go_ret
      exact ⟨rfl, 0, rfl⟩
    · have e : (doesR s 3 t 0).1 = 0 := by unfold doesR; rw [if_neg (by decide), if_neg (by decide), if_neg (by decide), if_pos rfl, if_neg h1, if_neg h2]
      have n1 : ¬ ((4 : Int) ≤ (s.queue.length : Int)) := by omega
      rw [e]
      go_enter Tryz.func31, Tryz.ntmps31
      go_wp2
      go_ret
      exact ⟨rfl, 0, rfl⟩

set_option maxHeartbeats 1000000 in
set_option maxRecDepth 100000 in
theorem done_wrong {w : World} {base B : Nat} {p : Value} {s : SS} {ev q : Value} (h : StAt w base B p s ev q) (sb : Nat) (hs : w.cell? ⟨sb, 0, none⟩ = some (.pointer (some ⟨B, 0, none⟩))) :
    Wrong w 32 #[.pointer (some ⟨sb, 0, none⟩)] (doesR s 4 ByteArray.empty 0).1 := by
  refine ⟨enters_of Tryz.func32 (by kernel_rfl) rfl, fun W hW => ?_⟩
  have hcell : ∀ a : Addr, W.cell? a = w.cell? a := fun a => World.cell?_of_block (by rw [hW])
  have c2 := (hcell ⟨sb, 0, none⟩).trans hs
  have c3 := (hcell ⟨B, 4, none⟩).trans (h.blk.cell 4)
  simp only [List.getElem?_cons_zero, List.getElem?_cons_succ] at c3
  obtain ⟨qa, qc, rfl, hq1, hq2, _⟩ := h.qs.form
  clear hs
  clear h hcell hW
  by_cases h2 : s.queue.length = 0
  · have e : (doesR s 4 ByteArray.empty 0).1 = 10 := by unfold doesR; rw [if_neg (by decide), if_neg (by decide), if_neg (by decide), if_neg (by decide), if_pos h2]
    have n1 : (s.queue.length : Int) = 0 := by omega
    rw [e]
    go_enter Tryz.func32, Tryz.ntmps32
    go_wp2
    go_ret
    exact ⟨rfl, 0, rfl⟩
  · have e : (doesR s 4 ByteArray.empty 0).1 = 0 := by unfold doesR; rw [if_neg (by decide), if_neg (by decide), if_neg (by decide), if_neg (by decide), if_neg h2]
    have n1 : ¬ ((s.queue.length : Int) = 0) := by omega
    rw [e]
    go_enter Tryz.func32, Tryz.ntmps32
    go_wp2
    go_ret
    exact ⟨rfl, 0, rfl⟩
end Go.Proofs.YtffnkomnldgcaaaGreatDoor
