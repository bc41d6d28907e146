/-
  A disk and the model of it side by side: what turns of the one leave of the other.
-/
import Derived.Test.YtilddhemngcieaaMd3
namespace Go.Proofs.Ytilddhemngcieaa
open Go.RowKit Go.Pal Go.Pal.Dk
theorem DkAt.not_type {w : World} {base D : Nat} {d : Dk} {L : Lay} (h : DkAt w base D d L) {g : Nat} {cur : Array Value} {t : TypeId} (hg : w.heap[g]? = some (.cells cur t (0, 0))) (h1 : t ≠ 79) (h2 : t ≠ 84) (h3 : t ≠ 5) : ¬ Foot D d.files L g := by
  rintro (rfl | hm | ⟨f, hf, rfl | hr⟩)
  · have h4 := h.blk
    unfold Blk at h4
    rw [hg] at h4
    injection h4 with h4
    injection h4 with _ h5
    exact h1 h5
  · obtain ⟨_, es, c, h4⟩ := h.map.lt hm
    rw [hg] at h4; cases h4
  · have h4 := (h.each f hf).blk
    unfold Blk at h4
    rw [hg] at h4
    injection h4 with h4
    injection h4 with _ h5
    exact h2 h5
  · obtain ⟨_, _, c, h4⟩ := own_lt (h.each f hf).row hr
    rw [hg] at h4
    injection h4 with h4
    injection h4 with _ h5
    exact h3 h5
theorem MdAt.apart {w : World} {base M : Nat} {d0 : Dk} {v : Value} {left : Nat} (h : MdAt w base M d0 v left) {base' D : Nat} {d : Dk} {L : Lay} (hd : DkAt w base' D d L) {g : Nat} (hg : MFoot M v g) : ¬ Foot D d.files L g := by
  rcases hg with rfl | hg
  · exact hd.not_type h.blk (by decide) (by decide) (by decide)
  · obtain ⟨_, _, cur, hh⟩ := own_lt h.row hg
    exact hd.not_type hh (by decide) (by decide) (by decide)
/-- The model behind a turn of the disk. -/
theorem MdAt.went {w w' : World} {base M : Nat} {d0 : Dk} {v : Value} {left : Nat} (h : MdAt w base M d0 v left) {base' D : Nat} {d d' : Dk} {L : Lay} (hd : DkAt w base' D d L) (hw : Went w base' D d L d' w') : MdAt w' base M d0 v left := by
  obtain ⟨_, _, ho, _⟩ := hw
  exact h.keep fun g hg => ho.block g (h.lt hg) (h.apart hd hg)
/-- The disk behind a turn of the model. -/
theorem DkAt.off_model {w w' : World} {base M : Nat} {d0 : Dk} {v : Value} {left : Nat} (h : MdAt w base M d0 v left) {base' D : Nat} {d : Dk} {L : Lay} (hd : DkAt w base' D d L) (ho : Off (MFoot M v) w w') : DkAt w' base' D d L :=
  hd.off ho fun _ hg hm => h.apart hd hm hg
theorem MdAt.off_below {w w' : World} {base M : Nat} {d0 : Dk} {v : Value} {left : Nat} (h : MdAt w base M d0 v left) (ho : Off (MFoot M v) w w') (hb : base ≤ w.heap.size) : Below base w w' := ho.below (fun _ hg => h.base hg) hb
end Go.Proofs.Ytilddhemngcieaa
