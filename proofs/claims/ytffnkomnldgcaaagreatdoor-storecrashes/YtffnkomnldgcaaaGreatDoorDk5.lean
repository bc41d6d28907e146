/-
  Contracts of package disk: Sync, leave, Cut.
-/
import Derived.Test.YtffnkomnldgcaaaGreatDoorDk4
import Derived.Laws.AppendOwnNone
namespace Go.Proofs.YtffnkomnldgcaaaGreatDoor
open Go.RowKit Go.Pal Go.Pal.Dk Go.Maps

theorem Went.file {w w1 w2 : World} {base D : Nat} {d d1 d' : Dk} {L L' : Lay} {n : ByteArray} {f : Fl} (g1 : w.grownBy w1 (some D)) (hfs : d1.files = d.files) (hf : atF d.files n = some f)
    (ho : Off (fun x => x = D ∨ x = L.fb n ∨ (L.row n).ownBlock = some x) w1 w2) (r : DkAt w2 base D d' L' ∧ ∀ x, Foot D d'.files L' x → Foot D d1.files L x ∨ w1.heap.size ≤ x) : Went w base D d L d' w2 := by
  obtain ⟨hm, hn⟩ := atF_some hf
  refine ⟨L', r.1, ?_, fun x hx => ?_⟩
  · refine ((Off.of_grown g1).mono (T := Foot D d.files L) (fun g _ e => .inl (by simpa using e.symm))).trans ho (fun g _ e => ?_)
    rcases e with e | e | e
    · exact .inl e
    · exact .inr (.inr ⟨f, hm, .inl (by rw [hn]; exact e)⟩)
    · exact .inr (.inr ⟨f, hm, .inr (by rw [hn]; exact e)⟩)
  · rcases r.2 x hx with h1 | h1
    · exact .inl (by rw [← hfs]; exact h1)
    · exact .inr (Nat.le_trans g1.size h1)
theorem used_syncF {l : List Fl} (hs : SortedF l) {n : ByteArray} {f : Fl} (hf : atF l n = some f) : usedF (modF n syncF l) = usedF l := by
  have := used_modF (h := syncF) hs hf
  simp only [syncF] at this
  exact Nat.add_right_cancel this

set_option maxHeartbeats 1000000 in
set_option maxRecDepth 100000 in
theorem sync_any {w : World} {base D : Nat} {d : Dk} {L : Lay} (h : DkAt w base D d L) (n : ByteArray) (hn : n.size ≤ maxLen) :
    Calls Tryz.prog 61 #[.pointer (some ⟨D, 0, none⟩), .string n] w fun e w' => e = .returned (.int .i64 (syncD d n).1) ∧ Went w base D d L (syncD d n).2 w' := by
  have HG := Lib.hid (begin_any h n)
  have hfs := (begD_files d).1
  have hrm := (begD_files d).2
  clear h
  by_cases hE : begE d n = 0
  · rw [hE] at HG
    cases hf : atF d.files n with
    | none =>
      have HR := Lib.hid (show syncD d n = (10, (begD d).2) by unfold syncD; rw [if_neg (by simp [hE]), hf])
      clear hE
      generalize syncD d n = R at *
      generalize (begD d).2 = d1 at *
      go_enter Tryz.func61, Tryz.ntmps61
      go_wp2_with fail
      refine HG.out.mono ?_
      rintro e w1 ⟨rfl, h1, g1⟩
      have c2 : w1.cell? ⟨D, 2, none⟩ = some (.map L.map) := h1.blk.cell 2
      have hl := h1.look n hn
      rw [hfs, ptrV_none hf] at hl
      have H1 := Lib.hid h1
      have G1 := Lib.hid g1
      clear h1 g1 hf
      go_wp2
      go_ret
      exact ⟨by rw [HR.out]; rfl, by rw [HR.out]; exact Went.head H1.out hfs G1.out⟩
    | some f =>
      have HR := Lib.hid (show syncD d n = (0, { (begD d).2 with files := modF n syncF d.files }) by unfold syncD; rw [if_neg (by simp [hE]), hf])
      clear hE
      generalize syncD d n = R at *
      generalize (begD d).2 = d1 at *
      go_enter Tryz.func61, Tryz.ntmps61
      go_wp2_with fail
      refine HG.out.mono ?_
      rintro e w1 ⟨rfl, h1, g1⟩
      have c2 : w1.cell? ⟨D, 2, none⟩ = some (.map L.map) := h1.blk.cell 2
      have hl := h1.look n hn
      rw [hfs, ptrV_some hf] at hl
      obtain ⟨hm, hfn⟩ := atF_some hf
      have hx := h1.each f (by rw [hfs]; exact hm)
      obtain ⟨p, cap, hv, _, _⟩ := row_form hx.row
      have hB := hx.blk
      rw [hfn] at hB hv
      have k0 := hB.cell 0
      have k1 := hB.cell 1
      have f1 := hB.frozen 1
      rw [hv] at k0
      simp only [List.getElem?_cons_zero, List.getElem?_cons_succ] at k0 k1
      have H1 := Lib.hid h1
      have G1 := Lib.hid g1
      have HF := Lib.hid hf
      have HX := Lib.hid hx
      have HB := Lib.hid hB
      have HFN := Lib.hid hfn
      have HM := Lib.hid hm
      clear h1 g1 hf hx hm hB hv hfn
      go_wp2
      go_ret
      refine ⟨by rw [HR.out]; rfl, ?_⟩
      rw [HR.out]
      have hff : atF d1.files n = some f := by rw [hfs]; exact HF.out
      have ho : Off (fun x => x = D ∨ x = L.fb n ∨ (L.row n).ownBlock = some x) w1 (w1.setCell ⟨L.fb n, 1, none⟩ (.int .i64 (f.data.size : Int))) := (Off.refl _ w1).set (.inr (.inr (.inl rfl))) _
      have hfm : f ∈ d1.files := (atF_some hff).1
      have hfile := H1.out.file (w' := w1.setCell ⟨L.fb n, 1, none⟩ (.int .i64 (f.data.size : Int))) (L' := L) (g := syncF) hff (fun _ => rfl) rfl rfl (fun _ _ => rfl)
        (by rw [used_syncF H1.out.good.sorted hff]; exact H1.out.blk.other (fun e => H1.out.ne_fb hfm (by rw [HFN.out]; exact e.symm)) _)
        ⟨by have hb := HB.out.set 1 (.int .i64 (f.data.size : Int)); rw [← HFN.out] at hb ⊢; exact hb, by
          refine own_kept HX.out.row (fun g hg => Below.heap_setCell w1 _ _ g ?_)
          have := H1.out.fb_row hfm hfm hg
          rw [HFN.out] at this; exact this, HX.out.fbase⟩
        ho (fun b hb => .inl hb) (by rw [used_syncF H1.out.good.sorted hff]; exact H1.out.good.used) (Nat.le_refl _)
      rw [hfs] at hfile
      have hw := Went.file (d := d) G1.out hfs HF.out ho (d' := { d1 with files := modF n syncF d.files }) (by
        refine ⟨hfile.1, fun x hx => ?_⟩
        rw [hfs]; exact hfile.2 x hx)
      exact hw
  · have HR := Lib.hid (show syncD d n = (begE d n, (begD d).2) by unfold syncD; rw [if_pos hE])
    have hb : (begE d n != 0) = true := bne_iff_ne.2 hE
    clear hE
    generalize syncD d n = R at *
    generalize (begD d).2 = d1 at *
    generalize begE d n = E at *
    go_enter Tryz.func61, Tryz.ntmps61
    go_wp2_with fail
    refine HG.out.mono ?_
    rintro e w1 ⟨rfl, h1, g1⟩
    have H1 := Lib.hid h1
    have G1 := Lib.hid g1
    clear h1 g1
    go_wp2
    go_ret
    exact ⟨by rw [HR.out]; rfl, by rw [HR.out]; exact Went.head H1.out hfs G1.out⟩
set_option maxHeartbeats 400000 in
set_option maxRecDepth 100000 in
theorem sync_nil (w : World) (n : ByteArray) :
    Calls Tryz.prog 61 #[.pointer none, .string n] w fun e w' => e = .returned (.int .i64 1) ∧ w' = w := by
  go_enter Tryz.func61, Tryz.ntmps61
  go_wp2_with (go_at_call 64; refine (begin_nil _ _).mono ?_; rintro e w' ⟨rfl, rfl⟩)
  go_ret
  exact ⟨rfl, rfl⟩
end Go.Proofs.YtffnkomnldgcaaaGreatDoor
