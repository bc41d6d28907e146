/-
  Contract of package wait: Drop.
-/
import Derived.Test.YtalpmnmpggljcaaWd
namespace Go.Proofs.Ytalpmnmpggljcaa
open Go.RowKit Go.Pal Go.Pal.Dk
set_option linter.unusedVariables false

/-- What is left when one is dropped. -/
def dropW (ws : List Wt) (id : ByteArray) : List Wt := match findW ws id with | none => ws | some i => ws.eraseIdx i
set_option maxHeartbeats 1000000 in
set_option maxRecDepth 100000 in
theorem wdrop_any {w : World} {base W places : Nat} {v : Value} {ws : List Wt} (h : WaitAt w base W places v ws) (id : ByteArray) (hbase : base ≤ w.heap.size) : Calls Try.prog 42 #[.pointer (some ⟨W, 0, none⟩), .string id] w fun e w' => e = .returned (.bool (findW ws id).isSome) ∧ ∃ v', WaitAt w' base W places v' (dropW ws id) ∧ Off (WFoot W v ws) w w' := by
  have HF := Lib.hid (wfind_at h id)
  have HW := Lib.hid h
  unfold dropW
  cases hf : findW ws id with
  | none =>
    have hi : findI ws id = -1 := by unfold findI; rw [hf]
    rw [hi] at HF
    clear h hf hi
    go_enter Try.func42, Try.ntmps42
    go_wp2_with (go_at_call 59; refine HF.out.mono ?_; rintro e w1 ⟨rfl, b1⟩)
    go_ret
    exact ⟨rfl, v, HW.out.below b1 (Nat.le_refl _), Off.of_new b1 _⟩
  | some i =>
    have hi : findI ws id = (i : Int) := by unfold findI; rw [hf]
    rw [hi] at HF
    obtain ⟨hil, hq1, hq2⟩ := findW_some hf
    clear hq1 hq2
    obtain ⟨p, cap, rfl, h1, h2, hp⟩ := rowS_form h.row
    obtain ⟨g, rfl⟩ := hp (by omega)
    have HIL := Lib.hid hil
    have HDEL := Lib.hid (fun (w1 : World) (hb : Below w.heap.size w w1) => wdelete_any (h.below hb (Nat.le_refl _)).row hil)
    have HC := Lib.hid (fun (w1 : World) (hb : Below w.heap.size w w1) => (h.below hb (Nat.le_refl _)).c1)
    have HFIN := Lib.hid (show ∀ w1 w2, Below w.heap.size w w1 → w2.ownsRow base 100 3 (.slice (some ⟨g, 0, none⟩) (ws.length - 1) cap) (ws.length - 1) (cellsW (ws.eraseIdx i)) → Off (fun x => x = g) w1 w2 → Blk w2 W 98 [.int .i64 (places : Int), .slice (some ⟨g, 0, none⟩) ws.length cap] ∧ ∃ v', WaitAt (w2.setCell ⟨W, 1, none⟩ (.slice (some ⟨g, 0, none⟩) (ws.length - 1) cap)) base W places v' (ws.eraseIdx i) ∧ Off (WFoot W (.slice (some ⟨g, 0, none⟩) ws.length cap) ws) w (w2.setCell ⟨W, 1, none⟩ (.slice (some ⟨g, 0, none⟩) (ws.length - 1) cap)) by
      intro w1 w2 hb hr ho
      have h1 := h.below hb (Nat.le_refl _)
      have hgW : g ≠ W := fun e => h1.row_ne (by simp [Value.ownBlock, e])
      have hB : Blk w2 W 98 [.int .i64 (places : Int), .slice (some ⟨g, 0, none⟩) ws.length cap] := (ho.block W h1.blk.lt (fun e => hgW e.symm)).trans h1.blk
      have hsub : ∀ x ∈ ws.eraseIdx i, x ∈ ws := fun x hx => List.mem_of_mem_eraseIdx hx
      have hoff : Off (WFoot W (.slice (some ⟨g, 0, none⟩) ws.length cap) ws) w w2 := (Off.of_new hb _).trans ho (fun x _ e => .inr (.inl (by rw [e]; rfl)))
      refine ⟨hB, _, ⟨hB.set 1 _, ?_, fun x hx => ?_, ?_, h.wbase⟩, hoff.set (.inr (.inl rfl)) _⟩
      · rw [List.length_eraseIdx_of_lt hil]
        refine own_kept hr (fun k hk => Below.heap_setCell w2 ⟨W, 1, none⟩ _ k (fun e => ?_))
        have : g = k := by simpa [Value.ownBlock] using hk
        exact hgW (this.trans e)
      · have hx' := hsub x hx
        have hm := h1.map_ne hx'
        refine ⟨(h1.maps x hx').1.keep ?_, (h1.maps x hx').2⟩
        refine (Below.heap_setCell w2 ⟨W, 1, none⟩ _ _ hm.1).trans (ho.block _ (h1.maps x hx').1.lt (fun e => hm.2 (by rw [e]; rfl)))
      · exact h.apart.sublist ((List.eraseIdx_sublist ws i).map _))
    have HD := Lib.hid (show ∀ w1, Below w.heap.size w w1 → Calls Try.prog 60 #[.slice (some ⟨g, 0, none⟩) ws.length cap, .int .i64 (i : Int), .int .i64 ((i : Int) + 1)] w1 fun e w2 => ∃ r : Nat, e = .returned (.slice (some ⟨g, 0, none⟩) r cap) ∧ Blk w2 W 98 [.int .i64 (places : Int), .slice (some ⟨g, 0, none⟩) ws.length cap] ∧ ∃ v', WaitAt (w2.setCell ⟨W, 1, none⟩ (.slice (some ⟨g, 0, none⟩) r cap)) base W places v' (ws.eraseIdx i) ∧ Off (WFoot W (.slice (some ⟨g, 0, none⟩) ws.length cap) ws) w (w2.setCell ⟨W, 1, none⟩ (.slice (some ⟨g, 0, none⟩) r cap)) by
      intro w1 hb
      refine (HDEL.out w1 hb).mono ?_
      rintro e w2 ⟨rfl, hr, ho⟩
      exact ⟨_, rfl, HFIN.out w1 w2 hb hr ho⟩)
    have i0 : ¬ ((i : Int) < 0) := by omega
    have hcw := h2
    unfold maxLen at hcw
    have i1 : (i : Int) + 1 ≤ 9223372036854775807 := by omega
    clear h hf hi hp HFIN HDEL HW
    generalize ws.length = n at *
    have i2 : (i : Int) ≤ 9223372036854775806 := by omega
    clear h1 h2 hbase hil i1 hcw
    go_enter Try.func42, Try.ntmps42
    go_wp2_with (first
      | (go_at_call 59; refine HF.out.mono ?_; rintro e w1 ⟨rfl, b1⟩; have c1 := HC.out w1 b1; have B1 := Lib.hid b1; clear b1)
      | (go_at_call 60; refine (HD.out w1 B1.out).mono ?_; rintro e w2 ⟨r, rfl, hb2, hr⟩; have d1 := hb2.cell 1; have e1 := hb2.frozen 1; have HR := Lib.hid hr; clear hr c1 hb2))
    go_ret
    exact ⟨rfl, HR.out⟩
end Go.Proofs.Ytalpmnmpggljcaa
