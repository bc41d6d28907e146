/-
  Contracts of package wait: New, all, Len, find, Has.
-/
import Derived.Test.YtalpmnmpggljcaaWa0
namespace Go.Proofs.Ytalpmnmpggljcaa
open Go.RowKit Go.Pal

set_option maxHeartbeats 400000 in
theorem wnew_any (places : Nat) (hp : places ≤ 300) (w : World) :
    Calls Try.prog 36 #[.int .i64 (places : Int)] w fun e w' => e = .returned (.pointer (some ⟨w.heap.size, 0, none⟩)) ∧ WaitAt w' w.heap.size w.heap.size places (.slice none 0 0) [] ∧ Below w.heap.size w w' := by
  go_enter Try.func36, Try.ntmps36
  go_wp2
  go_ret
  exact ⟨rfl, ⟨Blk.new w _ [.int .i64 (places : Int), .slice none 0 0], World.ownsRow_nil _ _ _ _, fun x hx => (by cases hx), List.nodup_nil, Nat.le_refl _⟩, (Below.refl _ _).alloc (Nat.le_refl _) _⟩
set_option maxHeartbeats 400000 in
theorem wnew_no (k : Int) (hp : k < 0 ∨ 300 < k) (w : World) :
    Calls Try.prog 36 #[.int .i64 k] w fun e w' => e = .returned (.pointer none) ∧ w' = w := by
  rcases hp with h | h
  · go_enter Try.func36, Try.ntmps36
    go_wp2
    go_ret
    exact ⟨rfl, rfl⟩
  · have h0 : ¬ k < 0 := by omega
    go_enter Try.func36, Try.ntmps36
    go_wp2
    go_ret
    exact ⟨rfl, rfl⟩
set_option maxHeartbeats 400000 in
theorem wall_nil (w : World) : Calls Try.prog 61 #[.pointer none] w fun e w' => e = .returned (.slice none 0 0) ∧ w' = w := by
  go_enter Try.func61, Try.ntmps61
  go_wp2
  go_ret
  exact ⟨rfl, rfl⟩
set_option maxHeartbeats 400000 in
theorem wall_at {w : World} {W : Nat} {v : Value} (h1 : w.cell? ⟨W, 1, none⟩ = some v) : Calls Try.prog 61 #[.pointer (some ⟨W, 0, none⟩)] w fun e w' => e = .returned v ∧ w' = w := by
  go_enter Try.func61, Try.ntmps61
  go_wp2
  go_ret
  exact ⟨rfl, rfl⟩
theorem WaitAt.c1 {w : World} {base W places : Nat} {v : Value} {ws : List Wt} (h : WaitAt w base W places v ws) : w.cell? ⟨W, 1, none⟩ = some v := h.blk.cell 1
set_option maxHeartbeats 400000 in
theorem wlen_nil (w : World) : Calls Try.prog 43 #[.pointer none] w fun e w' => e = .returned (.int .i64 0) ∧ w' = w := by
  go_enter Try.func43, Try.ntmps43
  go_wp2_with (go_at_call 61; refine (wall_nil _).mono ?_; rintro e w' ⟨rfl, rfl⟩)
  go_ret
  exact ⟨rfl, rfl⟩
set_option maxHeartbeats 400000 in
theorem wlen_at {w : World} {base W places : Nat} {v : Value} {ws : List Wt} (h : WaitAt w base W places v ws) : Calls Try.prog 43 #[.pointer (some ⟨W, 0, none⟩)] w fun e w' => e = .returned (.int .i64 (ws.length : Int)) ∧ w' = w := by
  have hc := h.c1
  obtain ⟨p, cap, rfl, h1, h2, _⟩ := rowS_form h.row
  clear h
  go_enter Try.func43, Try.ntmps43
  go_wp2_with (go_at_call 61; refine (wall_at hc).mono ?_; rintro e w' ⟨rfl, rfl⟩)
  go_ret
  exact ⟨rfl, rfl⟩
/-- The closure of find: is it this id? -/
def IdIs (w : World) (B : Nat) (s : ByteArray) : Prop := w.cell? ⟨B, 0, none⟩ = some (.string s)
set_option maxHeartbeats 400000 in
theorem windex_nil (w : World) (f : Value) : Calls Try.prog 74 #[.slice none 0 0, f] w fun e w' => e = .returned (.int .i64 (-1)) ∧ w' = w := by
  go_enter Try.func74, Try.ntmps74
  go_wp2
  refine wp_loop_rounds 1 ?_; rw [rounds_succ]
  go_wp2
  go_ret
  exact ⟨rfl, rfl⟩
set_option maxHeartbeats 1000000 in
set_option maxRecDepth 100000 in
theorem windex_any {w : World} {base cap : Nat} {p : Option Addr} {ws : List Wt} (h : w.ownsRow base 100 3 (.slice p ws.length cap) ws.length (cellsW ws)) (hcap : ws.length ≤ cap ∧ cap ≤ maxLen) (B : Nat) (s : ByteArray) (hB : IdIs w B s) (hBl : B < w.heap.size) :
    Calls Try.prog 74 #[.slice p ws.length cap, .func (.func 75) #[] #[.pointer (some ⟨B, 0, none⟩)]] w fun e w' => e = .returned (.int .i64 (findI ws s)) ∧ Below w.heap.size w w' := by
  unfold IdIs at hB
  have HF := Lib.hid (fun (i : Nat) (h : findW ws s = some i) => findW_some h)
  have HN := Lib.hid (fun (h : findW ws s = none) => findW_none h)
  have HR := Lib.hid h
  have hlen : ws.length ≤ 9223372036854775807 := by have := hcap; unfold maxLen at this; omega
  clear h
  go_enter Try.func74, Try.ntmps74
  go_wp2
  go_loopw [8] (fun j wr => ∃ k : Nat, k ≤ ws.length ∧ j = .int .i64 k ∧ (∀ i (hi : i < k) (hl : i < ws.length), ws[i].id ≠ s) ∧ Below w.heap.size w wr) (fun j _ => ws.length - (intOf j).toNat)
  case atStart => exact ⟨0, Nat.zero_le _, rfl, fun i hi => absurd hi (Nat.not_lt_zero i), Below.refl _ _⟩
  case round =>
    obtain ⟨k, hk, rfl, hno, hb⟩ := hrel
    have HB := Lib.hid hb
    have HNO := Lib.hid hno
    clear hno
    have cB0 := (hb.cell (p := ⟨B, 0, none⟩) hBl).trans hB
    have cB : ∀ o, (wr.alloc o).cell? ⟨B, 0, none⟩ = some (.string s) := fun o => Lib.cell?_alloc_some _ cB0
    clear cB0
    by_cases hlt : k < ws.length
    · obtain ⟨p1, cap1, e1, _, _, hg⟩ := rowS_form HR.out
      cases e1
      obtain ⟨g, rfl⟩ := hg (by omega)
      have hgl := (own_lt HR.out (g := g) rfl).1
      obtain ⟨c0, c1, c2⟩ := rowW_cells HR.out k hlt
      have d0 := (hb.cell (p := ⟨g, k * 3, none⟩) hgl).trans c0
      have d1 := (hb.cell (p := ⟨g, k * 3 + 1, none⟩) hgl).trans c1
      have d2 := (hb.cell (p := ⟨g, k * 3 + 2, none⟩) hgl).trans c2
      have HA := Lib.hid (show ∀ o, Below w.heap.size w (wr.alloc o) from fun o => hb.alloc hb.size o)
      clear c0 c1 c2 hb
      by_cases he : ws[k].id = s
      · have HFI := Lib.hid (show findI ws s = (k : Int) by
          unfold findI
          cases hf : findW ws s with
          | none => exact absurd he (HN.out hf _ (List.getElem_mem hlt))
          | some i =>
            obtain ⟨h1, h2, h3⟩ := HF.out i hf
            have : i = k := by
              rcases Nat.lt_trichotomy i k with h | h | h
              · exact absurd h2 (HNO.out i h h1)
              · exact h
              · exact absurd he (h3 k h)
            rw [this])
        rw [he] at d0
        generalize ws[k].text = tx at *
        generalize ws[k].mb = mb at *
        have heq := beqWT (a := s)
        go_wp2_with go_in
        go_ret
        exact ⟨(congrArg (fun i => Ending.returned (.int .i64 i)) HFI.out).symm, HA.out _⟩
      · have hne := beqWF he
        have HNE := Lib.hid he
        clear he
        generalize hid : ws[k].id = id at *
        generalize ws[k].text = tx at *
        generalize ws[k].mb = mb at *
        have HID := Lib.hid hid
        clear hid
        go_wp2_with go_in
        go_roundw
        case rel =>
          refine ⟨k + 1, by omega, by go_num, fun i hi hl => ?_, HA.out _⟩
          by_cases e : i = k
          · subst e; rw [HID.out]; exact HNE.out
          · exact HNO.out i (by omega) hl
        case measure => simp [intOf]; omega
    · have HFI := Lib.hid (show findI ws s = -1 by
        unfold findI
        cases hf : findW ws s with
        | none => rfl
        | some i =>
          obtain ⟨h1, h2, h3⟩ := HF.out i hf
          exact absurd h2 (HNO.out i (by omega) h1))
      clear hb
      go_wp2
      go_ret
      exact ⟨(congrArg (fun i => Ending.returned (.int .i64 i)) HFI.out).symm, HB.out⟩
set_option maxHeartbeats 400000 in
theorem wfind_nil (w : World) (s : ByteArray) : Calls Try.prog 59 #[.pointer none, .string s] w fun e w' => e = .returned (.int .i64 (-1)) ∧ Below w.heap.size w w' := by
  have hmf : ∀ (fn : Fn) (first cap : Array Value) (w : World), (Instr.makeFunc fn first cap).run Try.prog w = .ok (.func fn first cap) w := fun _ _ _ _ => rfl
  have HB := Lib.hid (show ∀ o1 : Obj, Below w.heap.size w (w.alloc o1) from fun o1 => (Below.refl _ _).alloc (Nat.le_refl _) _)
  go_enter Try.func59, Try.ntmps59
  go_wp2_with (first | (go_at_call 61; refine (wall_nil _).mono ?_; rintro e w' ⟨rfl, rfl⟩) | (go_at_call 74; refine (windex_nil _ _).mono ?_; rintro e w' ⟨rfl, rfl⟩))
  go_ret
  exact ⟨rfl, HB.out _⟩
set_option maxHeartbeats 400000 in
theorem wfind_at {w : World} {base W places : Nat} {v : Value} {ws : List Wt} (h : WaitAt w base W places v ws) (s : ByteArray) : Calls Try.prog 59 #[.pointer (some ⟨W, 0, none⟩), .string s] w fun e w' => e = .returned (.int .i64 (findI ws s)) ∧ Below w.heap.size w w' := by
  have hmf : ∀ (fn : Fn) (first cap : Array Value) (w : World), (Instr.makeFunc fn first cap).run Try.prog w = .ok (.func fn first cap) w := fun _ _ _ _ => rfl
  obtain ⟨p, cap, rfl, h1, h2, _⟩ := rowS_form h.row
  have hc : ∀ o, (w.alloc o).cell? ⟨W, 1, none⟩ = some (.slice p ws.length cap) := fun o => Lib.cell?_alloc_some _ h.c1
  have HR := Lib.hid (fun o => h.row.alloc o)
  have HB := Lib.hid (show ∀ (o1 : Obj) w', Below (w.alloc o1).heap.size (w.alloc o1) w' → Below w.heap.size w w' from fun o1 w' hb => ((Below.refl _ _).alloc (Nat.le_refl _) _).trans (hb.mono (by simp)))
  clear h
  go_enter Try.func59, Try.ntmps59
  go_wp2_with (first | (go_at_call 61; refine (wall_at (hc _)).mono ?_; rintro e w' ⟨rfl, rfl⟩) | (go_at_call 74; refine (windex_any (HR.out _) ⟨h1, h2⟩ _ s (by simp [IdIs]) (by simp)).mono ?_; rintro e w' ⟨rfl, b1⟩))
  go_ret
  exact ⟨rfl, HB.out _ _ b1⟩
theorem findI_neg {ws : List Wt} {s : ByteArray} : decide (0 ≤ findI ws s) = (findW ws s).isSome := by
  unfold findI
  cases findW ws s with
  | none => rfl
  | some i => simp
set_option maxHeartbeats 400000 in
theorem whas_nil (w : World) (s : ByteArray) : Calls Try.prog 44 #[.pointer none, .string s] w fun e w' => e = .returned (.bool false) ∧ Below w.heap.size w w' := by
  go_enter Try.func44, Try.ntmps44
  go_wp2_with (go_at_call 59; refine (wfind_nil _ s).mono ?_; rintro e w' ⟨rfl, b1⟩)
  go_ret
  exact ⟨rfl, b1⟩
set_option maxHeartbeats 400000 in
theorem whas_at {w : World} {base W places : Nat} {v : Value} {ws : List Wt} (h : WaitAt w base W places v ws) (s : ByteArray) : Calls Try.prog 44 #[.pointer (some ⟨W, 0, none⟩), .string s] w fun e w' => e = .returned (.bool (findW ws s).isSome) ∧ Below w.heap.size w w' := by
  have HF := Lib.hid (wfind_at h s)
  have HN := Lib.hid (@findI_neg ws s)
  clear h
  generalize findI ws s = i at *
  generalize findW ws s = j at *
  go_enter Try.func44, Try.ntmps44
  go_wp2_with (go_at_call 59; refine HF.out.mono ?_; rintro e w' ⟨rfl, b1⟩)
  go_ret
  exact ⟨congrArg (fun i => Ending.returned (.bool i)) HN.out, b1⟩
end Go.Proofs.Ytalpmnmpggljcaa
