/-
  Contracts of package disk: Arm, Read, Sync.
-/
import Derived.Test.YtffnkomnldgcaaaGreatDoorDk3
namespace Go.Proofs.YtffnkomnldgcaaaGreatDoor
open Go.RowKit Go.Pal Go.Pal.Dk Go.Maps

/-- What an operation leaves: the disk is d', and nothing else has turned. -/
def Went (w : World) (base D : Nat) (d : Dk) (L : Lay) (d' : Dk) (w' : World) : Prop :=
  ∃ L', DkAt w' base D d' L' ∧ Off (Foot D d.files L) w w' ∧ ∀ x, Foot D d'.files L' x → Foot D d.files L x ∨ w.heap.size ≤ x
theorem Went.head {w w' : World} {base D : Nat} {d d' : Dk} {L : Lay} (h : DkAt w' base D d' L) (hf : d'.files = d.files) (hg : w.grownBy w' (some D)) : Went w base D d L d' w' :=
  ⟨L, h, (Off.of_grown hg).mono (fun g _ e => .inl (by simpa using e.symm)), fun x hx => .inl (by rw [hf] at hx; exact hx)⟩
theorem ptrV_some {L : Lay} {l : List Fl} {n : ByteArray} {f : Fl} (h : atF l n = some f) : ptrV L l n = .pointer (some ⟨L.fb n, 0, none⟩) := by simp [ptrV, h]
theorem ptrV_none {L : Lay} {l : List Fl} {n : ByteArray} (h : atF l n = none) : ptrV L l n = .pointer none := by simp [ptrV, h]
theorem row_form {w : World} {base n : Nat} {t : TypeId} {v : Value} {l : List Value} (h : w.ownsRow base t 1 v n l) : ∃ p cap, v = .slice p n cap ∧ n ≤ cap ∧ cap ≤ maxLen := by
  rcases h.2 with ⟨rfl, rfl⟩ | ⟨g, cap, cur, rfl, _, _, h1, h2, _⟩
  · exact ⟨none, 0, rfl, Nat.le_refl _, by decide⟩
  · exact ⟨_, cap, rfl, h1, h2⟩

set_option maxHeartbeats 400000 in
set_option maxRecDepth 100000 in
theorem arm_any {w : World} {base D : Nat} {d : Dk} {L : Lay} (h : DkAt w base D d L) (k : Int) (hk : k ≤ 9223372036854775807) :
    Calls Tryz.prog 8 #[.pointer (some ⟨D, 0, none⟩), .int .i64 k] w fun e w' => e = .returned (.tuple #[]) ∧ DkAt w' base D (armD d k) L ∧ w.grownBy w' (some D) := by
  have hB := h.blk
  have c4 : w.cell? ⟨D, 4, none⟩ = some (.bool d.arm.isSome) := hB.cell 4
  have c5 : w.cell? ⟨D, 5, none⟩ = some (.int .i64 ((d.arm.getD 0 : Nat) : Int)) := hB.cell 5
  have f4 := hB.frozen 4
  have f5 := hB.frozen 5
  have hm : max k 0 = ((k.toNat : Nat) : Int) := by omega
  have HB := Lib.hid hB
  have HH := Lib.hid (fun w' ha hg hB => @DkAt.head w w' base D d L h d.on (some k.toNat) ha hg hB)
  clear hB h
  by_cases hneg : k < 0
  · have e : (0 : Int) = ((k.toNat : Nat) : Int) := by omega
    have E := Lib.hid e
    have HZ := Lib.hid (show (some k.toNat).getD 0 ≤ 9223372036854775807 by simp; omega)
    clear hm e
    go_enter Tryz.func8, Tryz.ntmps8
    go_wp2
    go_end0
    have hg : w.grownBy ((w.setCell ⟨D, 4, none⟩ (.bool true)).setCell ⟨D, 5, none⟩ (.int .i64 0)) (some D) := grow_set (grow_set (World.grownBy.refl w _) rfl) rfl
    exact ⟨rfl, HH.out _ HZ.out hg (by
      have := (HB.out.set 4 (.bool true)).set 5 (.int .i64 0)
      rw [E.out] at this ⊢
      exact this), hg⟩
  · have e : k = ((k.toNat : Nat) : Int) := by omega
    have E := Lib.hid e
    have HZ := Lib.hid (show (some k.toNat).getD 0 ≤ 9223372036854775807 by simp; omega)
    clear hm e
    go_enter Tryz.func8, Tryz.ntmps8
    go_wp2
    go_end0
    have hg : w.grownBy ((w.setCell ⟨D, 4, none⟩ (.bool true)).setCell ⟨D, 5, none⟩ (.int .i64 k)) (some D) := grow_set (grow_set (World.grownBy.refl w _) rfl) rfl
    exact ⟨rfl, HH.out _ HZ.out hg (by
      have := (HB.out.set 4 (.bool true)).set 5 (.int .i64 k)
      rw [show Value.int .i64 k = .int .i64 ((k.toNat : Nat) : Int) from congrArg _ E.out] at this ⊢
      exact this), hg⟩
set_option maxHeartbeats 400000 in
set_option maxRecDepth 100000 in
theorem arm_nil (w : World) (k : Int) :
    Calls Tryz.prog 8 #[.pointer none, .int .i64 k] w fun e w' => e = .returned (.tuple #[]) ∧ w' = w := by
  go_enter Tryz.func8, Tryz.ntmps8
  go_wp2
  refine bodyPost_ret (results_none rfl _ _ _) rfl ?_
  exact ⟨rfl, rfl⟩
set_option maxHeartbeats 400000 in
set_option maxRecDepth 100000 in
theorem dread_any {w : World} {base D : Nat} {d : Dk} {L : Lay} (h : DkAt w base D d L) (n : ByteArray) (hn : n.size ≤ maxLen) :
    Calls Tryz.prog 46 #[.pointer (some ⟨D, 0, none⟩), .string n] w fun e w' => e = .returned (.tuple #[.string (readD d n).1, .int .i64 (readD d n).2]) ∧ w' = w := by
  have c2 : w.cell? ⟨D, 2, none⟩ = some (.map L.map) := h.blk.cell 2
  have c3 : w.cell? ⟨D, 3, none⟩ = some (.bool d.on) := h.blk.cell 3
  have hl := h.look n hn
  unfold readD
  cases hon : d.on
  · rw [hon] at c3
    clear hl h
    go_enter Tryz.func46, Tryz.ntmps46
    go_wp2
    go_ret2
    exact ⟨rfl, rfl⟩
  · rw [hon] at c3
    cases hf : atF d.files n with
    | none =>
      rw [ptrV_none hf] at hl
      clear h hf
      go_enter Tryz.func46, Tryz.ntmps46
      go_wp2
      go_ret2
      exact ⟨rfl, rfl⟩
    | some f =>
      rw [ptrV_some hf] at hl
      obtain ⟨hm, hfn⟩ := atF_some hf
      have hx := h.each f hm
      have k0 := hx.blk.cell 0
      rw [hfn] at k0
      have ht := row_text hx.row
      rw [hfn] at ht
      obtain ⟨p, cap, hv, _, _⟩ := row_form hx.row
      rw [hfn] at hv
      rw [hv] at k0 ht
      simp only [List.getElem?_cons_zero] at k0
      clear h hf hx hm hv
      generalize f.data.size = z at *
      go_enter Tryz.func46, Tryz.ntmps46
      go_wp2
      go_ret2
      exact ⟨rfl, rfl⟩
end Go.Proofs.YtffnkomnldgcaaaGreatDoor
