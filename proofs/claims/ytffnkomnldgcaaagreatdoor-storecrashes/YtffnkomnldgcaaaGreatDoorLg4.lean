/-
  Contracts of package log: Open (of a disk that is on, and not armed).
-/
import Derived.Test.YtffnkomnldgcaaaGreatDoorLg3
namespace Go.Proofs.YtffnkomnldgcaaaGreatDoor
open Go.RowKit Go.Pal Go.Pal.Dk Go.Pal.Fr Go.Pal.Cr

set_option maxHeartbeats 1000000 in
set_option maxRecDepth 100000 in
theorem open_log {w : World} {base D : Nat} {d : Dk} {L : Lay} {gs : List (List ByteArray)} {tl : ByteArray} (hd : DkAt w base D d L) (hon : d.on = true) (harm : d.arm = none) (hs : Segs d.files gs tl) (hfl : gs.flatten.length ≤ 1000000) :
    Calls Tryz.prog 18 #[.pointer (some ⟨D, 0, none⟩), .string ⟨#[114, 111, 111, 109]⟩] w fun e w' => ∃ Lb v L', e = .returned (.tuple #[.pointer (some ⟨Lb, 0, none⟩), v, .int .i64 0]) ∧ w.heap.size ≤ Lb ∧ LgAt w' Lb D (gs.length - 1) gs.flatten.length false ∧ QR w' 9 w.heap.size v gs.flatten ∧ DkAt w' base D (openD d gs tl) L' ∧ Off (Foot D d.files L) w w' ∧ (∀ x, Foot D (openD d gs tl).files L' x → Foot D d.files L x ∨ w.heap.size ≤ x) := by
  have HR := Lib.hid (fun (W : World) (Lb : Nat) (h1 : LgAt W Lb D 0 0 false) (h2 : DkAt W base D d L) => read_log h1 h2 hon harm hs hfl)
  have HC := Lib.hid (fun W => clone_any ⟨#[114, 111, 111, 109]⟩ W (by decide))
  have HD := Lib.hid hd
  clear hd hs
  go_enter Tryz.func18, Tryz.ntmps18
  go_wp2_with fail
  refine (HC.out _).mono ?_
  rintro e w1 ⟨rfl, b1⟩
  have D1 := HD.out.below b1 (Nat.le_refl _)
  have DA := Lib.hid (D1.keep (w' := w1.alloc (.cells #[.pointer (some ⟨D, 0, none⟩), .string ⟨#[114, 111, 111, 109]⟩, .int .i64 0, .int .i64 0, .bool false] 76)) (fun g hg => heap_alloc_old w1 _ (D1.foot_lt hg)))
  have LA := Lib.hid (show LgAt (w1.alloc (.cells #[.pointer (some ⟨D, 0, none⟩), .string ⟨#[114, 111, 111, 109]⟩, .int .i64 0, .int .i64 0, .bool false] 76)) w1.heap.size D 0 0 false from Blk.new w1 76 [.pointer (some ⟨D, 0, none⟩), .string ⟨#[114, 111, 111, 109]⟩, .int .i64 0, .int .i64 0, .bool false])
  have BA := Lib.hid (b1.alloc b1.size (.cells #[.pointer (some ⟨D, 0, none⟩), .string ⟨#[114, 111, 111, 109]⟩, .int .i64 0, .int .i64 0, .bool false] 76))
  have B1 := Lib.hid b1.size
  clear D1 b1
  go_wp2_with fail
  refine (HR.out _ _ LA.out DA.out).mono ?_
  rintro e w2 ⟨v, L', rfl, q2, l2, d2, o2, f2⟩
  obtain ⟨a, cap, rfl, hcap, hcm, _⟩ := q2.form
  have c3 : w2.cell? ⟨w1.heap.size, 3, none⟩ = some (.int .i64 0) := Blk.cell l2 3
  have fz := Blk.frozen l2 3
  unfold maxLen at hcm
  have Q2 := Lib.hid q2
  have L2 := Lib.hid l2
  have D2 := Lib.hid d2
  have O2 := Lib.hid o2
  have F2 := Lib.hid f2
  clear q2 l2 d2 o2 f2
  generalize hn : gs.flatten.length = n at *
  have HN := Lib.hid hn
  clear hn
  go_wp2
  go_ret3
  have hz : w.heap.size < (w1.alloc (.cells #[.pointer (some ⟨D, 0, none⟩), .string ⟨#[114, 111, 111, 109]⟩, .int .i64 0, .int .i64 0, .bool false] 76)).heap.size := by have := B1.out; simp; omega
  have hfl := L2.out.foot D2.out
  refine ⟨w1.heap.size, _, L', rfl, B1.out, ?_, ?_, ?_, ?_, ?_⟩
  · rw [HN.out]
    have := Blk.set L2.out 3 (.int .i64 (n : Int))
    exact this
  · have hne := QR.notBlk L2.out (by decide) Q2.out
    exact (Q2.out.weak (Nat.le_of_lt hz)).keep (fun g hg => Below.heap_setCell w2 _ _ g (fun e => hne (by rw [hg]; exact congrArg some e)))
  · exact D2.out.keep (fun g hg => Below.heap_setCell w2 _ _ g (fun e => hfl (by rw [show w1.heap.size = g from e.symm]; exact hg)))
  · refine Off.set ?_ (.inl B1.out) _
    refine (Off.of_new BA.out _).trans O2.out (fun g hg hs => ?_)
    rcases hs with h | h
    · have := B1.out; omega
    · exact h
  · intro x hx
    rcases F2.out x hx with h | h
    · exact .inl h
    · exact .inr (by omega)
end Go.Proofs.YtffnkomnldgcaaaGreatDoor
