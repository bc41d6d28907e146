/-
  Contracts of package store: of no disk and of no store.
-/
import Derived.Test.YtffnkomnldgcaaaDoorSo16
namespace Go.Proofs.YtffnkomnldgcaaaDoor
open Go.RowKit Go.Pal Go.Pal.Dk Go.Pal.Fr Go.Pal.Cr

set_option maxHeartbeats 400000 in
set_option maxRecDepth 100000 in
theorem lopen_nil (w : World) :
    Calls Tryd.prog 17 #[.pointer none, .string ⟨#[114, 111, 111, 109]⟩] w fun e w' => e = .returned (.tuple #[.pointer none, .slice none 0 0, .int .i64 1]) ∧ w' = w := by
  go_enter Tryd.func17, Tryd.ntmps17
  go_wp2
  go_ret3
  exact ⟨rfl, rfl⟩
set_option maxHeartbeats 400000 in
set_option maxRecDepth 100000 in
theorem sopen_nil (w : World) :
    Calls Tryd.prog 10 #[.pointer none] w fun e w' => e = .returned (.tuple #[.pointer none, .int .i64 1]) ∧ w' = w := by
  go_enter Tryd.func10, Tryd.ntmps10
  go_wp2_with (go_at_call 17; refine (lopen_nil _).mono ?_; rintro e w' ⟨rfl, rfl⟩)
  go_ret2
  exact ⟨rfl, rfl⟩
set_option maxHeartbeats 400000 in
set_option maxRecDepth 100000 in
theorem lay_nil (w : World) (c r : ByteArray) (f : Value) :
    Calls Tryd.prog 37 #[.pointer none, .string c, .string r, f] w fun e w' => e = .returned (.int .i64 1) ∧ w' = w := by
  go_enter Tryd.func37, Tryd.ntmps37
  go_wp2
  go_ret
  exact ⟨rfl, rfl⟩
set_option maxHeartbeats 400000 in
set_option maxRecDepth 100000 in
theorem enter_nil (w : World) (t : ByteArray) :
    Calls Tryd.prog 24 #[.pointer none, .string t] w fun e w' => e = .returned (.int .i64 1) ∧ Below w.heap.size w w' := by
  have hmf : ∀ (fn : Fn) (first cap : Array Value) (w : World), (Instr.makeFunc fn first cap).run Tryd.prog w = .ok (.func fn first cap) w := fun _ _ _ _ => rfl
  have HB := Lib.hid (show ∀ o1 o2 : Obj, Below w.heap.size w ((w.alloc o1).alloc o2) from fun o1 o2 => ((Below.refl _ _).alloc (Nat.le_refl _) _).alloc (by simp) _)
  go_enter Tryd.func24, Tryd.ntmps24
  go_wp2_with (go_at_call 37; refine (lay_nil _ _ _ _).mono ?_; rintro e w' ⟨rfl, rfl⟩)
  go_ret
  exact ⟨rfl, HB.out _ _⟩
set_option maxHeartbeats 400000 in
set_option maxRecDepth 100000 in
theorem event_nil (w : World) (t : ByteArray) :
    Calls Tryd.prog 25 #[.pointer none, .string t] w fun e w' => e = .returned (.int .i64 1) ∧ Below w.heap.size w w' := by
  have hmf : ∀ (fn : Fn) (first cap : Array Value) (w : World), (Instr.makeFunc fn first cap).run Tryd.prog w = .ok (.func fn first cap) w := fun _ _ _ _ => rfl
  have HB := Lib.hid (show ∀ o1 : Obj, Below w.heap.size w (w.alloc o1) from fun o1 => (Below.refl _ _).alloc (Nat.le_refl _) _)
  go_enter Tryd.func25, Tryd.ntmps25
  go_wp2_with (go_at_call 37; refine (lay_nil _ _ _ _).mono ?_; rintro e w' ⟨rfl, rfl⟩)
  go_ret
  exact ⟨rfl, HB.out _⟩
set_option maxHeartbeats 400000 in
set_option maxRecDepth 100000 in
theorem queue_nil (w : World) (t : ByteArray) :
    Calls Tryd.prog 19 #[.pointer none, .string t] w fun e w' => e = .returned (.int .i64 1) ∧ Below w.heap.size w w' := by
  have hmf : ∀ (fn : Fn) (first cap : Array Value) (w : World), (Instr.makeFunc fn first cap).run Tryd.prog w = .ok (.func fn first cap) w := fun _ _ _ _ => rfl
  have HB := Lib.hid (show ∀ o1 o2 : Obj, Below w.heap.size w ((w.alloc o1).alloc o2) from fun o1 o2 => ((Below.refl _ _).alloc (Nat.le_refl _) _).alloc (by simp) _)
  go_enter Tryd.func19, Tryd.ntmps19
  go_wp2_with (go_at_call 37; refine (lay_nil _ _ _ _).mono ?_; rintro e w' ⟨rfl, rfl⟩)
  go_ret
  exact ⟨rfl, HB.out _ _⟩
set_option maxHeartbeats 400000 in
set_option maxRecDepth 100000 in
theorem done_nil (w : World) :
    Calls Tryd.prog 20 #[.pointer none] w fun e w' => e = .returned (.int .i64 1) ∧ Below w.heap.size w w' := by
  have hmf : ∀ (fn : Fn) (first cap : Array Value) (w : World), (Instr.makeFunc fn first cap).run Tryd.prog w = .ok (.func fn first cap) w := fun _ _ _ _ => rfl
  have HB := Lib.hid (show ∀ o1 : Obj, Below w.heap.size w (w.alloc o1) from fun o1 => (Below.refl _ _).alloc (Nat.le_refl _) _)
  go_enter Tryd.func20, Tryd.ntmps20
  go_wp2_with (go_at_call 37; refine (lay_nil _ _ _ _).mono ?_; rintro e w' ⟨rfl, rfl⟩)
  go_ret
  exact ⟨rfl, HB.out _⟩
set_option maxHeartbeats 400000 in
set_option maxRecDepth 100000 in
theorem spend_nil (w : World) (n : Int) (hn : n ≤ 9223372036854775807) :
    Calls Tryd.prog 26 #[.pointer none, .int .i64 n] w fun e w' => e = .returned (.int .i64 1) ∧ Below w.heap.size w w' := by
  have hmf : ∀ (fn : Fn) (first cap : Array Value) (w : World), (Instr.makeFunc fn first cap).run Tryd.prog w = .ok (.func fn first cap) w := fun _ _ _ _ => rfl
  have HB := Lib.hid (show ∀ o1 o2 : Obj, Below w.heap.size w ((w.alloc o1).alloc o2) from fun o1 o2 => ((Below.refl _ _).alloc (Nat.le_refl _) _).alloc (by simp) _)
  have HSH := Lib.hid (fun W => short_any n hn W)
  go_enter Tryd.func26, Tryd.ntmps26
  go_wp2_with fail
  refine (HSH.out _).mono ?_
  rintro e w5 ⟨rfl, b5⟩
  have k05 : w5.cell? ⟨w.heap.size, 0, none⟩ = some (.pointer none) := (((Blk.new w 27 [.pointer none]).alloc _).below b5 (by simp; omega)).cell 0
  have B5 := Lib.hid ((HB.out _ _).trans (b5.mono (HB.out _ _).size))
  clear b5
  go_wp2_with (go_at_call 37; refine (lay_nil _ _ _ _).mono ?_; rintro e w' ⟨rfl, rfl⟩)
  go_ret
  exact ⟨rfl, B5.out⟩
set_option maxHeartbeats 400000 in
set_option maxRecDepth 100000 in
theorem state_nil (w : World) :
    Calls Tryd.prog 16 #[.pointer none] w fun e w' => e = .returned (vsV ss0 ⟨none, 0, none, 0⟩) ∧ Below w.heap.size w w' := by
  have HB := Lib.hid (show ∀ o1 : Obj, Below w.heap.size w (w.alloc o1) from fun o1 => (Below.refl _ _).alloc (Nat.le_refl _) _)
  go_enter Tryd.func16, Tryd.ntmps16
  go_wp2
  refine bodyPost_ret (by simp [results, Tryd.results16, go_sem]; try rfl) rfl ?_
  exact ⟨rfl, HB.out _⟩
set_option maxHeartbeats 1000000 in
set_option maxRecDepth 100000 in
theorem do_nil (w : World) (k : Int) (t : ByteArray) (n : Int) (hn : n ≤ 9223372036854775807) :
    Calls Tryd.prog 13 #[.pointer none, .agg #[.int .i64 k, .string t, .int .i64 n]] w fun e w' => e = .returned (.int .i64 1) ∧ Below w.heap.size w w' := by
  have HB := Lib.hid (show ∀ o1 : Obj, Below w.heap.size w (w.alloc o1) from fun o1 => (Below.refl _ _).alloc (Nat.le_refl _) _)
  by_cases k0 : k = 0
  · subst k0
    go_enter Tryd.func13, Tryd.ntmps13
    go_wp2_with (go_at_call 24; refine (enter_nil _ t).mono ?_; rintro e w' ⟨rfl, b5⟩)
    go_ret
    exact ⟨rfl, (HB.out _).trans (b5.mono (HB.out _).size)⟩
  by_cases k1 : k = 1
  · subst k1
    go_enter Tryd.func13, Tryd.ntmps13
    go_wp2_with (go_at_call 25; refine (event_nil _ t).mono ?_; rintro e w' ⟨rfl, b5⟩)
    go_ret
    exact ⟨rfl, (HB.out _).trans (b5.mono (HB.out _).size)⟩
  by_cases k2 : k = 2
  · subst k2
    go_enter Tryd.func13, Tryd.ntmps13
    go_wp2_with (go_at_call 26; refine (spend_nil _ n hn).mono ?_; rintro e w' ⟨rfl, b5⟩)
    go_ret
    exact ⟨rfl, (HB.out _).trans (b5.mono (HB.out _).size)⟩
  by_cases k3 : k = 3
  · subst k3
    go_enter Tryd.func13, Tryd.ntmps13
    go_wp2_with (go_at_call 19; refine (queue_nil _ t).mono ?_; rintro e w' ⟨rfl, b5⟩)
    go_ret
    exact ⟨rfl, (HB.out _).trans (b5.mono (HB.out _).size)⟩
  go_enter Tryd.func13, Tryd.ntmps13
  go_wp2_with (go_at_call 20; refine (done_nil _).mono ?_; rintro e w' ⟨rfl, b5⟩)
  go_ret
  exact ⟨rfl, (HB.out _).trans (b5.mono (HB.out _).size)⟩
end Go.Proofs.YtffnkomnldgcaaaDoor
