/-
  The law's model: what an operation does, whatever the disk.
-/
import Derived.Test.YtilddhemngcieaaMd3za
import Derived.Test.YtilddhemngcieaaMd3zc
import Derived.Test.YtilddhemngcieaaMd3zm
import Derived.Test.YtilddhemngcieaaMd3zf
import Derived.Test.YtilddhemngcieaaMd3na
import Derived.Test.YtilddhemngcieaaMd3nc
import Derived.Test.YtilddhemngcieaaMd3nm
import Derived.Test.YtilddhemngcieaaMd3nf
import Derived.Test.YtilddhemngcieaaMd3sa
import Derived.Test.YtilddhemngcieaaMd3sc
import Derived.Test.YtilddhemngcieaaMd3sm
import Derived.Test.YtilddhemngcieaaMd3sf
namespace Go.Proofs.Ytilddhemngcieaa
open Go.RowKit Go.Pal Go.Pal.Dk
set_option linter.unusedVariables false
set_option linter.unusedSimpArgs false
set_option maxHeartbeats 400000 in
set_option maxRecDepth 100000 in
theorem does_off {w : World} {base M : Nat} {v : Value} {left : Nat} {room : Nat} {fs : List Fl} {arm : Option Nat} (h : MdAt w base M ⟨room, fs, false, arm⟩ v left) (kind : Int) (nm dt : ByteArray) (m : Int) (a : Option Addr) (kl cc : Nat) :
    Calls Try.prog 26 #[.pointer (some ⟨M, 0, none⟩), .agg #[.int .i64 kind, .string nm, .string dt, .int .i64 m, .slice a kl cc]] w fun e w' => e = .returned (.int .i64 (opD ⟨room, fs, false, arm⟩ kind nm dt m).1) ∧ MWent w base M v (opD ⟨room, fs, false, arm⟩ kind nm dt m).2 w' := by
  have HR := Lib.hid (show opD ⟨room, fs, false, arm⟩ kind nm dt m = (6, ⟨room, fs, false, arm⟩) by
    unfold opD appendD syncD cutD
    have hE : begE ⟨room, fs, false, arm⟩ nm = 6 := rfl
    have hB : (begD ⟨room, fs, false, arm⟩).2 = ⟨room, fs, false, arm⟩ := rfl
    rw [hE, hB]; simp)
  generalize opD ⟨room, fs, false, arm⟩ kind nm dt m = R at *
  have q2 := (h.blk.alloc (.cells #[.int .i64 kind, .string nm, .string dt, .int .i64 m, .slice a kl cc] 51)).cell 2
  simp only [List.getElem?_cons_zero, List.getElem?_cons_succ, Bool.not_false] at q2
  have HM := Lib.hid (h.below (new_below w (.cells #[.int .i64 kind, .string nm, .string dt, .int .i64 m, .slice a kl cc] 51)) (Nat.le_refl _))
  have HO := Lib.hid ((Off.refl (MFoot M v) w).alloc (.cells #[.int .i64 kind, .string nm, .string dt, .int .i64 m, .slice a kl cc] 51))
  clear h
  go_enter Try.func26, Try.ntmps26
  go_wp2
  go_ret
  exact ⟨by rw [HR.out]; rfl, by rw [HR.out]; exact MWent.same HM.out HO.out⟩
set_option maxHeartbeats 400000 in
set_option maxRecDepth 100000 in
theorem does_dead {w : World} {base M : Nat} {v : Value} {room : Nat} {fs : List Fl} (h : MdAt w base M ⟨room, fs, true, some 0⟩ v 0) (kind : Int) (nm dt : ByteArray) (m : Int) (a : Option Addr) (kl cc : Nat) :
    Calls Try.prog 26 #[.pointer (some ⟨M, 0, none⟩), .agg #[.int .i64 kind, .string nm, .string dt, .int .i64 m, .slice a kl cc]] w fun e w' => e = .returned (.int .i64 (opD ⟨room, fs, true, some 0⟩ kind nm dt m).1) ∧ MWent w base M v (opD ⟨room, fs, true, some 0⟩ kind nm dt m).2 w' := by
  have HR := Lib.hid (show opD ⟨room, fs, true, some 0⟩ kind nm dt m = (6, ⟨room, fs, false, some 0⟩) by
    unfold opD appendD syncD cutD
    have hE : begE ⟨room, fs, true, some 0⟩ nm = 6 := rfl
    have hB : (begD ⟨room, fs, true, some 0⟩).2 = ⟨room, fs, false, some 0⟩ := rfl
    rw [hE, hB]; simp)
  generalize opD ⟨room, fs, true, some 0⟩ kind nm dt m = R at *
  obtain ⟨W0, hW0⟩ : ∃ W0, W0 = w.alloc (.cells #[.int .i64 kind, .string nm, .string dt, .int .i64 m, .slice a kl cc] 51) := ⟨_, rfl⟩
  have hm0 : MdAt W0 base M ⟨room, fs, true, some 0⟩ v 0 := by rw [hW0]; exact h.below (new_below w _) (Nat.le_refl _)
  have q2 := hm0.blk.cell 2
  have q3 := hm0.blk.cell 3
  have q4 := hm0.blk.cell 4
  have y2 := hm0.blk.frozen 2
  simp only [List.getElem?_cons_zero, List.getElem?_cons_succ, Bool.not_true, Option.isSome_some] at q2 q3 q4
  have HM := Lib.hid (show MdAt (W0.setCell ⟨M, 2, none⟩ (.bool true)) base M ⟨room, fs, false, some 0⟩ v 0 from
    hm0.head (on := false) (arm := some 0) (by omega) (by intro j e; cases e; rfl) (grow_set (World.grownBy.refl W0 _) rfl) (hm0.blk.set 2 (.bool true)))
  have HO := Lib.hid (show Off (MFoot M v) w (W0.setCell ⟨M, 2, none⟩ (.bool true)) from Off.set (by rw [hW0]; exact (Off.refl _ w).alloc _) (p := ⟨M, 2, none⟩) (.inr (.inl rfl)) _)
  rw [hW0] at q2 q3 q4 y2 HM HO
  clear h hm0
  go_enter Try.func26, Try.ntmps26
  go_wp2
  go_ret
  exact ⟨by rw [HR.out]; rfl, by rw [HR.out]; exact MWent.same HM.out HO.out⟩

theorem does_any {w : World} {base M : Nat} {d : Dk} {v : Value} {left : Nat} (h : MdAt w base M d v left) (good : GoodD d) (hlen : d.files.length ≤ 1000000) (hb : base ≤ w.heap.size) (kind : Int) (nm dt : ByteArray) (m : Int) (a : Option Addr) (kl cc : Nat)
    (hk : kind = 0 ∨ kind = 1 ∨ kind = 2) (hz1 : nm.size ≤ maxLen) (hz2 : dt.size ≤ maxLen) (hcm : -9223372036854775808 ≤ m ∧ m ≤ 9223372036854775807) :
    Calls Try.prog 26 #[.pointer (some ⟨M, 0, none⟩), .agg #[.int .i64 kind, .string nm, .string dt, .int .i64 m, .slice a kl cc]] w fun e w' => e = .returned (.int .i64 (opD d kind nm dt m).1) ∧ MWent w base M v (opD d kind nm dt m).2 w' := by
  obtain ⟨room, fs, on, arm⟩ := d
  simp only [] at hlen
  cases on
  · exact does_off h kind nm dt m a kl cc
  have ha := h.arm
  have key : ∀ (P : Prop), ((nameOk nm = false) → P) → ((nameOk nm = true) → kind = 0 → room - usedF fs < dt.size → P) → ((nameOk nm = true) → kind = 0 → ¬ room - usedF fs < dt.size → atF fs nm = none → P) →
      ((nameOk nm = true) → kind = 0 → ¬ room - usedF fs < dt.size → ∀ f, atF fs nm = some f → P) → ((nameOk nm = true) → (kind = 1 ∨ kind = 2) → atF fs nm = none → P) → ((nameOk nm = true) → kind = 1 → ∀ f, atF fs nm = some f → P) → ((nameOk nm = true) → kind = 2 → ∀ f, atF fs nm = some f → P) → P := by
    intro P p1 p2 p3 p4 p5 p6 p7
    cases hno : nameOk nm
    · exact p1 hno
    rcases hk with h0 | h12
    · by_cases hbig : room - usedF fs < dt.size
      · exact p2 hno h0 hbig
      · cases hat : atF fs nm with
        | none => exact p3 hno h0 hbig hat
        | some f => exact p4 hno h0 hbig f hat
    · cases hat : atF fs nm with
      | none => exact p5 hno h12 hat
      | some f =>
        rcases h12 with h1 | h2
        · exact p6 hno h1 f hat
        · exact p7 hno h2 f hat
  cases arm with
  | none =>
    cases left with
    | zero => exact key _ (fun x => does_z_bad h good hlen hb kind nm dt m a kl cc hk x hz1 hz2 hcm) (fun x y z => does_z_full h good hlen hb kind nm dt m a kl cc y x z hz1 hz2 hcm) (fun x y z t => does_z_make h good hlen hb kind nm dt m a kl cc y x z t hz1 hz2 hcm) (fun x y z f t => does_z_more h good hlen hb kind nm dt m a kl cc y x z f t hz1 hz2 hcm) (fun x y t => does_z_none h good hlen hb kind nm dt m a kl cc y x t hz1 hz2 hcm) (fun x y f t => does_z_sync h good hlen hb kind nm dt m a kl cc y x f t hz1 hz2 hcm) (fun x y f t => does_z_cut h good hlen hb kind nm dt m a kl cc y x f t hz1 hz2 hcm)
    | succ k => exact key _ (fun x => does_n_bad h good hlen hb kind nm dt m a kl cc hk x hz1 hz2 hcm) (fun x y z => does_n_full h good hlen hb kind nm dt m a kl cc y x z hz1 hz2 hcm) (fun x y z t => does_n_make h good hlen hb kind nm dt m a kl cc y x z t hz1 hz2 hcm) (fun x y z f t => does_n_more h good hlen hb kind nm dt m a kl cc y x z f t hz1 hz2 hcm) (fun x y t => does_n_none h good hlen hb kind nm dt m a kl cc y x t hz1 hz2 hcm) (fun x y f t => does_n_sync h good hlen hb kind nm dt m a kl cc y x f t hz1 hz2 hcm) (fun x y f t => does_n_cut h good hlen hb kind nm dt m a kl cc y x f t hz1 hz2 hcm)
  | some j =>
    obtain rfl : left = j := ha j rfl
    cases left with
    | zero => exact does_dead h kind nm dt m a kl cc
    | succ k => exact key _ (fun x => does_s_bad h good hlen hb kind nm dt m a kl cc hk x hz1 hz2 hcm) (fun x y z => does_s_full h good hlen hb kind nm dt m a kl cc y x z hz1 hz2 hcm) (fun x y z t => does_s_make h good hlen hb kind nm dt m a kl cc y x z t hz1 hz2 hcm) (fun x y z f t => does_s_more h good hlen hb kind nm dt m a kl cc y x z f t hz1 hz2 hcm) (fun x y t => does_s_none h good hlen hb kind nm dt m a kl cc y x t hz1 hz2 hcm) (fun x y f t => does_s_sync h good hlen hb kind nm dt m a kl cc y x f t hz1 hz2 hcm) (fun x y f t => does_s_cut h good hlen hb kind nm dt m a kl cc y x f t hz1 hz2 hcm)
end Go.Proofs.Ytilddhemngcieaa
