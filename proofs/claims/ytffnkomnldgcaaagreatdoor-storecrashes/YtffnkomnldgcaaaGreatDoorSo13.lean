/-
  The document's answers for layer 11: Does.
-/
import Derived.Test.YtffnkomnldgcaaaGreatDoorSo10
namespace Go.Proofs.YtffnkomnldgcaaaGreatDoor
open Go.RowKit Go.Pal Go.Pal.Dk Go.Pal.Fr Go.Pal.Cr

set_option linter.unusedVariables false in
set_option maxHeartbeats 1000000 in
set_option maxRecDepth 100000 in
theorem does_any (w : World) (s : SS) (v : Vs) (k : Int) (t : ByteArray) (n : Int) (ht : t.size ≤ 1000000) (hu : s.used ≤ 65535) (hq : s.queue.length ≤ v.c2) :
    Calls Tryz.prog 10 #[vsV s v, .int .i64 k, .string t, .int .i64 n] w fun e w' => e = .returned (.tuple #[.string (doesR s k t n).2, .int .i64 (doesR s k t n).1]) ∧ Below w.heap.size w w' := by
  have HB := Lib.hid (show ∀ o : Obj, Below w.heap.size w (w.alloc o) from fun o => (Below.refl _ _).alloc (Nat.le_refl _) _)
  unfold vsV
  by_cases k0 : k = 0
  · subst k0
    by_cases h1 : t.size = 32
    · have h1i : (t.size : Int) = 32 := by omega
      by_cases h2 : s.room.size = 0
      · have e : doesR s 0 t n = (0, (⟨#[82]⟩ : ByteArray) ++ t) := by unfold doesR; rw [if_pos rfl, if_neg (by omega), if_neg (by omega)]; rfl
        have n0 := name_none s.room h2
        rw [e]
        go_enter Tryz.func10, Tryz.ntmps10
        go_wp2
        go_ret2
        exact ⟨rfl, HB.out _⟩
      · have e : doesR s 0 t n = (11, ⟨#[]⟩) := by unfold doesR; rw [if_pos rfl, if_neg (by omega), if_pos h2]; rfl
        have n0 := name_some s.room (by omega)
        have n1 : s.room.toList.isEmpty = false := by simpa using n0
        rw [e]
        go_enter Tryz.func10, Tryz.ntmps10
        go_wp2
        go_ret2
        exact ⟨rfl, HB.out _⟩
    · have e : doesR s 0 t n = (1, ⟨#[]⟩) := by unfold doesR; rw [if_pos rfl, if_pos h1]; rfl
      have h1i : ¬ ((t.size : Int) = 32) := by omega
      rw [e]
      go_enter Tryz.func10, Tryz.ntmps10
      go_wp2
      go_ret2
      exact ⟨rfl, HB.out _⟩
  by_cases k1 : k = 1
  · subst k1
    by_cases h1 : 65534 < t.size
    · have e : doesR s 1 t n = (3, ⟨#[]⟩) := by unfold doesR; rw [if_neg (by decide), if_pos rfl, if_pos h1]; rfl
      have h1i : (65534 : Int) < (t.size : Int) := by omega
      rw [e]
      go_enter Tryz.func10, Tryz.ntmps10
      go_wp2
      go_ret2
      exact ⟨rfl, HB.out _⟩
    · have e : doesR s 1 t n = (0, (⟨#[69]⟩ : ByteArray) ++ t) := by unfold doesR; rw [if_neg (by decide), if_pos rfl, if_neg h1]; rfl
      have h1i : ¬ ((65534 : Int) < (t.size : Int)) := by omega
      rw [e]
      go_enter Tryz.func10, Tryz.ntmps10
      go_wp2
      go_ret2
      exact ⟨rfl, HB.out _⟩
  by_cases k2 : k = 2
  · subst k2
    have HNB := Lib.hid (fun W => number2_any n W)
    by_cases hok : 0 ≤ n ∧ n ≤ 65535
    · have hk := numOk_yes (k := 2) (n := n) hok.1 (by simp; omega)
      rw [numB_yes hk, hk] at HNB
      have hbz : (be 2 n.toNat).size = 2 := be_size _ _
      by_cases h2 : n ≤ s.used
      · have e : doesR s 2 t n = (1, ⟨#[]⟩) := by unfold doesR; rw [if_neg (by decide), if_neg (by decide), if_pos rfl, if_pos (.inl h2)]; rfl
        rw [e]
        clear hk
        generalize be 2 n.toNat = B2 at *
        go_enter Tryz.func10, Tryz.ntmps10
        go_wp2_with fail
        refine (HNB.out _).mono ?_
        rintro e2 w3 ⟨rfl, b3⟩
        have c2 : w3.cell? ⟨w.heap.size, 2, none⟩ = some (.int .i64 (s.used : Int)) := ((Blk.new w 36 [.string s.room, .slice v.a1 s.events.length v.c1, .int .i64 (s.used : Int), .slice v.a2 s.queue.length v.c2]).below b3 (by simp)).cell 2
        have B3 := Lib.hid ((HB.out _).trans (b3.mono (by simp)))
        clear b3
        go_wp2
        go_ret2
        exact ⟨rfl, B3.out⟩
      · have e : doesR s 2 t n = (0, (⟨#[75]⟩ : ByteArray) ++ be 2 n.toNat) := by unfold doesR; rw [if_neg (by decide), if_neg (by decide), if_pos rfl, if_neg (by omega)]; rfl
        rw [e]
        clear hk
        generalize be 2 n.toNat = B2 at *
        go_enter Tryz.func10, Tryz.ntmps10
        go_wp2_with fail
        refine (HNB.out _).mono ?_
        rintro e2 w3 ⟨rfl, b3⟩
        have c2 : w3.cell? ⟨w.heap.size, 2, none⟩ = some (.int .i64 (s.used : Int)) := ((Blk.new w 36 [.string s.room, .slice v.a1 s.events.length v.c1, .int .i64 (s.used : Int), .slice v.a2 s.queue.length v.c2]).below b3 (by simp)).cell 2
        have B3 := Lib.hid ((HB.out _).trans (b3.mono (by simp)))
        clear b3
        go_wp2
        go_ret2
        exact ⟨rfl, B3.out⟩
    · have hk := numOk_no (k := 2) (n := n) (by simp; omega)
      rw [numB_no hk, hk] at HNB
      have e : doesR s 2 t n = (1, ⟨#[]⟩) := by unfold doesR; rw [if_neg (by decide), if_neg (by decide), if_pos rfl, if_pos (by omega)]; rfl
      rw [e]
      clear hk
      go_enter Tryz.func10, Tryz.ntmps10
      go_wp2_with fail
      refine (HNB.out _).mono ?_
      rintro e2 w3 ⟨rfl, b3⟩
      have B3 := Lib.hid ((HB.out _).trans (b3.mono (by simp)))
      clear b3
      go_wp2
      go_ret2
      exact ⟨rfl, B3.out⟩
  by_cases k3 : k = 3
  · subst k3
    by_cases h1 : 200 < t.size
    · have e : doesR s 3 t n = (3, ⟨#[]⟩) := by unfold doesR; rw [if_neg (by decide), if_neg (by decide), if_neg (by decide), if_pos rfl, if_pos h1]; rfl
      have h1i : (200 : Int) < (t.size : Int) := by omega
      rw [e]
      go_enter Tryz.func10, Tryz.ntmps10
      go_wp2
      go_ret2
      exact ⟨rfl, HB.out _⟩
    · have h1i : ¬ ((200 : Int) < (t.size : Int)) := by omega
      by_cases h2 : 4 ≤ s.queue.length
      · have e : doesR s 3 t n = (8, ⟨#[]⟩) := by unfold doesR; rw [if_neg (by decide), if_neg (by decide), if_neg (by decide), if_pos rfl, if_neg h1, if_pos h2]; rfl
        have h2i : (4 : Int) ≤ (s.queue.length : Int) := by omega
        rw [e]
        go_enter Tryz.func10, Tryz.ntmps10
        go_wp2
        go_ret2
        exact ⟨rfl, HB.out _⟩
      · have e : doesR s 3 t n = (0, (⟨#[81]⟩ : ByteArray) ++ t) := by unfold doesR; rw [if_neg (by decide), if_neg (by decide), if_neg (by decide), if_pos rfl, if_neg h1, if_neg h2]; rfl
        have h2i : ¬ ((4 : Int) ≤ (s.queue.length : Int)) := by omega
        rw [e]
        go_enter Tryz.func10, Tryz.ntmps10
        go_wp2
        go_ret2
        exact ⟨rfl, HB.out _⟩
  by_cases h2 : s.queue.length = 0
  · have e : doesR s k t n = (10, ⟨#[]⟩) := by unfold doesR; rw [if_neg k0, if_neg k1, if_neg k2, if_neg k3, if_pos h2]; rfl
    have h2i : (s.queue.length : Int) = 0 := by omega
    rw [e]
    go_enter Tryz.func10, Tryz.ntmps10
    go_wp2
    go_ret2
    exact ⟨rfl, HB.out _⟩
  · have e : doesR s k t n = (0, (⟨#[68]⟩ : ByteArray)) := by unfold doesR; rw [if_neg k0, if_neg k1, if_neg k2, if_neg k3, if_neg h2, app_empty]; rfl
    have h2i : ¬ ((s.queue.length : Int) = 0) := by omega
    rw [e]
    go_enter Tryz.func10, Tryz.ntmps10
    go_wp2
    go_ret2
    exact ⟨rfl, HB.out _⟩
end Go.Proofs.YtffnkomnldgcaaaGreatDoor
