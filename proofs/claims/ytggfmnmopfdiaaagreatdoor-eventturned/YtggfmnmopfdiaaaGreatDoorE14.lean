/-
  Contracts of event's Check and of the document's Signed.
-/
import Derived.Test.YtggfmnmopfdiaaaGreatDoorE2
import Derived.Test.YtggfmnmopfdiaaaGreatDoorE3
import Derived.Test.YtggfmnmopfdiaaaGreatDoorE4
import Derived.Test.YtggfmnmopfdiaaaGreatDoorE7
import Derived.Test.YtggfmnmopfdiaaaGreatDoorIn2
import Derived.Deep.RegionHeld3
namespace Go.Proofs.YtggfmnmopfdiaaaGreatDoor
open Go.RowKit Go.Pal Go.Pal.Fr Go.Pal.Ev

set_option maxHeartbeats 1000000 in
set_option maxRecDepth 100000 in
theorem check_no (w : World) (e : E) (a : Option Addr) (c : Nat) (he : Came w e a c) (hok : evOk e = false) :
    Calls Tryz.prog 15 #[evV e a c] w fun r w' => r = .returned (.int .i64 2) ∧ Below w.heap.size w w' := by
  have HR := Lib.hid (right_any (w.alloc (.cells #[.int .i64 e.kind, .string e.author, .slice a e.parents.length c, .string e.body, .string e.sig] 24)) e a c (he.row.below (alloc_below w _)) he.len he.each he.body)
  rw [hok] at HR
  have HB := Lib.hid (alloc_below w (.cells #[.int .i64 e.kind, .string e.author, .slice a e.parents.length c, .string e.body, .string e.sig] 24))
  clear he hok
  unfold evV at HR ⊢
  go_enter Tryz.func15, Tryz.ntmps15
  go_wp2_with fail
  refine HR.out.mono ?_
  rintro r w1 ⟨rfl, q1⟩
  have B1 := Lib.hid (HB.out.trans (q1.mono HB.out.size))
  clear q1
  go_wp2
  go_ret
  exact ⟨rfl, B1.out⟩

set_option maxHeartbeats 1000000 in
set_option maxRecDepth 100000 in
theorem check_yes (w : World) (e : E) (a : Option Addr) (c : Nat) (he : Came w e a c) (hok : evOk e = true) (ht : Tabs w) (b : Bool)
    (hV : ∀ W, Tabs W → Calls Tryz.prog 39 #[.string e.author, .string (evC e), .string e.sig] W fun r w' => r = .returned (.bool b) ∧ Below W.heap.size W w') :
    Calls Tryz.prog 15 #[evV e a c] w fun r w' => r = .returned (.int .i64 (if b = true then 0 else 4)) ∧ Below w.heap.size w w' := by
  have HR := Lib.hid (right_any (w.alloc (.cells #[.int .i64 e.kind, .string e.author, .slice a e.parents.length c, .string e.body, .string e.sig] 24)) e a c (he.row.below (alloc_below w _)) he.len he.each he.body)
  rw [hok] at HR
  have HB := Lib.hid (alloc_below w (.cells #[.int .i64 e.kind, .string e.author, .slice a e.parents.length c, .string e.body, .string e.sig] 24))
  have HCO := Lib.hid (fun (w1 W : World) (hb : Below w.heap.size w w1) (hq : Below w1.heap.size w1 W) => (lay_any6 W e a c (he.row.below (hb.trans (hq.mono hb.size))) (noSig_ok hok) he.cap).mono (fun r w' (q : r = .returned (.string (evC e)) ∧ Below W.heap.size W w') => (show r = .returned (.string (evC e)) ∧ Below w1.heap.size w1 w' from ⟨q.1, hq.trans (q.2.mono hq.size)⟩)))
  have HVE := Lib.hid (fun (w1 W : World) (hb : Below w.heap.size w w1) (hq : Below w1.heap.size w1 W) => (hV W (ht.below (hb.trans (hq.mono hb.size)))).mono (fun r w' (q : r = .returned (.bool b) ∧ Below W.heap.size W w') => (show r = .returned (.bool b) ∧ Below w1.heap.size w1 w' from ⟨q.1, hq.trans (q.2.mono hq.size)⟩)))
  clear he hok ht hV
  unfold evV at HR HCO ⊢
  generalize evC e = C at *
  go_enter Tryz.func15, Tryz.ntmps15
  go_wp2_with fail
  refine HR.out.mono ?_
  rintro r w1 ⟨rfl, q1⟩
  have B1 := Lib.hid (HB.out.trans (q1.mono HB.out.size))
  have HC1 := Lib.hid (fun W hq => HCO.out w1 W B1.out hq)
  have HV1 := Lib.hid (fun W hq => HVE.out w1 W B1.out hq)
  obtain ⟨k0, k1, k2, k3, k4⟩ := box_cells q1
  have hBl : w.heap.size < w1.heap.size := Nat.lt_of_lt_of_le (by simp) q1.size
  clear q1 HR HCO HVE
  have kk0 : w1.drew.cell? ⟨w.heap.size, 0, none⟩ = some (.int .i64 e.kind) := k0
  have kk1 : w1.drew.cell? ⟨w.heap.size, 1, none⟩ = some (.string e.author) := k1
  have kk2 : w1.drew.cell? ⟨w.heap.size, 2, none⟩ = some (.slice a e.parents.length c) := k2
  have kk3 : w1.drew.cell? ⟨w.heap.size, 3, none⟩ = some (.string e.body) := k3
  have kk4 : w1.drew.cell? ⟨w.heap.size, 4, none⟩ = some (.string e.sig) := k4
  have bdr : Below w1.heap.size w1 w1.drew := (Below.refl _ _).drew
  go_wp2
  go_region_held3 (fun w' => w'.cell? ⟨w.heap.size, 0, none⟩ = some (.int .i64 e.kind) ∧ w'.cell? ⟨w.heap.size, 1, none⟩ = some (.string e.author) ∧ w'.cell? ⟨w.heap.size, 2, none⟩ = some (.slice a e.parents.length c) ∧ w'.cell? ⟨w.heap.size, 3, none⟩ = some (.string e.body) ∧ w'.cell? ⟨w.heap.size, 4, none⟩ = some (.string e.sig))
    (first | with_reducible exact ⟨(b8.cell (p := ⟨w.heap.size, 0, none⟩) hBl).trans k0, (b8.cell (p := ⟨w.heap.size, 1, none⟩) hBl).trans k1, (b8.cell (p := ⟨w.heap.size, 2, none⟩) hBl).trans k2, (b8.cell (p := ⟨w.heap.size, 3, none⟩) hBl).trans k3, (b8.cell (p := ⟨w.heap.size, 4, none⟩) hBl).trans k4⟩ | with_reducible exact (b8.cell (p := ⟨w.heap.size, 0, none⟩) hBl).trans k0 | with_reducible exact (b8.cell (p := ⟨w.heap.size, 1, none⟩) hBl).trans k1 | with_reducible exact (b8.cell (p := ⟨w.heap.size, 2, none⟩) hBl).trans k2 | with_reducible exact (b8.cell (p := ⟨w.heap.size, 3, none⟩) hBl).trans k3 | with_reducible exact (b8.cell (p := ⟨w.heap.size, 4, none⟩) hBl).trans k4 | with_reducible exact ⟨(b7.cell (p := ⟨w.heap.size, 0, none⟩) hBl).trans k0, (b7.cell (p := ⟨w.heap.size, 1, none⟩) hBl).trans k1, (b7.cell (p := ⟨w.heap.size, 2, none⟩) hBl).trans k2, (b7.cell (p := ⟨w.heap.size, 3, none⟩) hBl).trans k3, (b7.cell (p := ⟨w.heap.size, 4, none⟩) hBl).trans k4⟩ | with_reducible exact (b7.cell (p := ⟨w.heap.size, 0, none⟩) hBl).trans k0 | with_reducible exact (b7.cell (p := ⟨w.heap.size, 1, none⟩) hBl).trans k1 | with_reducible exact (b7.cell (p := ⟨w.heap.size, 2, none⟩) hBl).trans k2 | with_reducible exact (b7.cell (p := ⟨w.heap.size, 3, none⟩) hBl).trans k3 | with_reducible exact (b7.cell (p := ⟨w.heap.size, 4, none⟩) hBl).trans k4 | with_reducible exact ⟨kk0, kk1, kk2, kk3, kk4⟩ | with_reducible exact kk0 | with_reducible exact kk1 | with_reducible exact kk2 | with_reducible exact kk3 | with_reducible exact kk4 | fail)
    (first
      | (go_at_call 39; refine (HV1.out _ b7).mono ?_; rintro r w8 ⟨rfl, b8⟩)
      | (go_at_call 40; refine (HC1.out _ (by first | exact bdr)).mono ?_; rintro r w7 ⟨rfl, b7⟩))
  have BF := Lib.hid (B1.out.trans (b8.mono B1.out.size))
  clear b7 b8 bdr k0 k1 k2 k3 k4 kk0 kk1 kk2 kk3 kk4
  cases b
  · go_wp2
    go_ret
    exact ⟨rfl, BF.out⟩
  · go_wp2
    go_ret
    exact ⟨rfl, BF.out⟩
end Go.Proofs.YtggfmnmopfdiaaaGreatDoor
