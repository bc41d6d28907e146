/-
  The law's 'awake': the document's example.
-/
import Derived.Test.YtffnkomnldgcaaaGreatDoorSo14
import Derived.Test.YtffnkomnldgcaaaGreatDoorSo10
namespace Go.Proofs.YtffnkomnldgcaaaGreatDoor
open Go.RowKit Go.Pal Go.Pal.Dk Go.Pal.Fr Go.Pal.Cr

def tA : ByteArray := ⟨#[97]⟩
def tB : ByteArray := ⟨#[98]⟩
def sB : SS := ⟨⟨#[]⟩, [], 0, [tB]⟩
theorem szB : SzS sB 1000000 := ⟨by decide, fun x h => (by cases h), fun x h => (by rw [List.mem_singleton.1 h]; decide), by decide, by decide⟩
set_option linter.unusedVariables false in
set_option maxHeartbeats 2000000 in
set_option maxRecDepth 100000 in
theorem awake11 (w : World) :
    Calls Tryz.prog 5 #[] w fun e w' => e = .returned (.bool true) ∧ Below w.heap.size w w' := by
  have HNEW := Lib.hid (new_yes w 500 (by decide))
  rw [show ((500 : Nat) : Int) = 500 from rfl] at HNEW
  have HD0 := Lib.hid (new_at w w.heap.size 500 (Nat.le_refl _) (by decide))
  rw [show ((500 : Nat) : Int) = 500 from rfl] at HD0
  have hq1 : (doesR ss0 3 tA 0).1 = 0 := rfl
  have hz1 : (doesR ss0 3 tA 0).2.size = 2 := rfl
  have hq2 : (doesR (afterR ss0 3 tA 0) 3 tB 0).1 = 0 := rfl
  have hz2 : (doesR (afterR ss0 3 tA 0) 3 tB 0).2.size = 2 := rfl
  have hq3 : (doesR (afterR (afterR ss0 3 tA 0) 3 tB 0) 4 ByteArray.empty 0).1 = 0 := rfl
  have hz3 : (doesR (afterR (afterR ss0 3 tA 0) 3 tB 0) 4 ByteArray.empty 0).2.size = 1 := rfl
  have hs3 : afterR (afterR (afterR ss0 3 tA 0) 3 tB 0) 4 ByteArray.empty 0 = sB := rfl
  have HQ := Lib.hid (And.intro hq1 (And.intro hz1 (And.intro hq2 (And.intro hz2 (And.intro hq3 (And.intro hz3 hs3))))))
  clear hq1 hz1 hq2 hz2 hq3 hz3 hs3
  go_enter Tryz.func5, Tryz.ntmps5
  go_wp2_with fail
  refine HNEW.out.mono ?_
  rintro e w1 ⟨rfl, rfl⟩
  obtain ⟨w1, hw1⟩ : ∃ W, W = w.alloc (.cells #[.int .i64 500, .int .i64 0, .map none, .bool true, .bool false, .int .i64 0] 54) := ⟨_, rfl⟩
  rw [← hw1] at HD0 ⊢
  have b1 : Below w.heap.size w w1 := by rw [hw1]; exact (Below.refl _ _).alloc (Nat.le_refl _) _
  have HB1 := Lib.hid b1
  clear b1 hw1
  go_wp2_with fail
  refine (open_new HD0.out).mono ?_
  rintro e w2 ⟨B, Lb, L2, ev2, q2, rfl, so2, o2, f2⟩
  have bs2 := base_new HD0.out f2
  have hd0 := HD0.out
  have HB2 := Lib.hid (HB1.out.trans (o2.below (fun g hg => hd0.foot_base hg) HB1.out.size))
  have SO2 := Lib.hid so2
  have BS2 := Lib.hid bs2
  clear so2 bs2 o2 f2 hd0
  go_wp2_with fail
  have ha1 := queue_any SO2.out ((live0 500).ready (by decide)) tA (fun _ => by rw [HQ.out.2.1]; decide)
  refine ha1.mono ?_
  intro e w3 h3
  obtain ⟨d3, rfl, di3, lv3, on3, ar3, rm3⟩ := act_calm h3 SO2.out (live0 500) (by decide) rfl rfl HQ.out.1
  obtain ⟨L3, ev3, q3, so3, bs3, b3⟩ := Did.based BS2.out HB2.out.size di3
  have HB3 := Lib.hid (HB2.out.trans b3)
  have SO3 := Lib.hid so3
  have BS3 := Lib.hid bs3
  have LV3 := Lib.hid lv3
  have ST3 := Lib.hid (And.intro on3 (And.intro ar3 rm3))
  clear h3 ha1 di3 lv3 on3 ar3 rm3 so3 bs3 b3
  go_wp2_with fail
  have ha2 := queue_any SO3.out (LV3.out.ready (by decide)) tB (fun _ => by
    have h1 := LV3.out.used
    have h2 := ST3.out.2.2
    rw [HQ.out.2.1] at h1
    rw [HQ.out.2.2.2.1, h2]
    show _ ≤ 500
    omega)
  refine ha2.mono ?_
  intro e w4 h4
  obtain ⟨d4, rfl, di4, lv4, on4, ar4, rm4⟩ := act_calm h4 SO3.out LV3.out (by decide) ST3.out.1 ST3.out.2.1 HQ.out.2.2.1
  obtain ⟨L4, ev4, q4, so4, bs4, b4⟩ := Did.based BS3.out HB3.out.size di4
  have HB4 := Lib.hid (HB3.out.trans b4)
  have SO4 := Lib.hid so4
  have BS4 := Lib.hid bs4
  have LV4 := Lib.hid lv4
  have ST4 := Lib.hid (And.intro on4 (And.intro ar4 (rm4.trans ST3.out.2.2)))
  clear h4 ha2 di4 lv4 on4 ar4 rm4 so4 bs4 b4
  go_wp2_with fail
  have ha3 := done_any SO4.out (LV4.out.ready (by decide)) (fun _ => by
    have h1 := LV4.out.used
    have h2 := ST4.out.2.2
    rw [HQ.out.2.1, HQ.out.2.2.2.1] at h1
    rw [HQ.out.2.2.2.2.2.1, h2]
    show _ ≤ 500
    omega)
  refine ha3.mono ?_
  intro e w5 h5
  obtain ⟨d5, rfl, di5, lv5, on5, ar5, rm5⟩ := act_calm h5 SO4.out LV4.out (by decide) ST4.out.1 ST4.out.2.1 HQ.out.2.2.2.2.1
  obtain ⟨L5, ev5, q5, so5, bs5, b5⟩ := Did.based BS4.out HB4.out.size di5
  have HB5 := Lib.hid (HB4.out.trans b5)
  rw [HQ.out.2.2.2.2.2.2] at lv5 so5
  have SO5 := Lib.hid so5
  have LV5 := Lib.hid lv5
  have ST5 := Lib.hid (And.intro on5 ar5)
  clear h5 ha3 di5 lv5 on5 ar5 rm5 so5 bs5 b5 SO2 SO3 SO4 BS2 BS3 BS4 LV3 LV4 ST3 ST4 HQ
  go_wp2_with fail
  refine (open_again SO5.out.dk LV5.out (by decide) ST5.out.1 ST5.out.2).mono ?_
  rintro e w6 ⟨B6, Lb6, L6, ev6, q6, rfl, so6, o6⟩
  have hd5 := SO5.out.dk
  have HB6 := Lib.hid (HB5.out.trans (o6.below (fun g hg => hd5.foot_base hg) HB5.out.size))
  have SO6 := Lib.hid so6
  clear so6 o6 hd5
  go_wp2_with fail
  refine (state_any SO6.out.st szB).mono ?_
  intro e w7 ht7
  obtain ⟨v7, rfl, vs7, b7⟩ := ht7.vs
  have HB7 := Lib.hid (HB6.out.trans (b7.mono HB6.out.size))
  have VS7 := Lib.hid vs7
  clear ht7 vs7 b7
  go_wp2_with fail
  refine (as_any w7 sB v7).mono ?_
  rintro e w8 ⟨rfl, b8⟩
  have HB8 := Lib.hid (HB7.out.trans (b8.mono HB7.out.size))
  have VS8 := Lib.hid (VS7.out.below b8)
  clear b8
  have HBN := Lib.hid (show Below w8.heap.size w8 (w8.alloc (.cells #[.string ⟨#[98]⟩] 9)) from (Below.refl _ _).alloc (Nat.le_refl _) _)
  have VS9 := Lib.hid (show VsAt (w8.alloc (.cells #[.string ⟨#[98]⟩] 9)) sB ⟨none, 0, some ⟨w8.heap.size, 0, none⟩, 1⟩ from ⟨.inl rfl, .inr ⟨w8.heap.size, 0, rfl, by simp, fun i hi => by
    have : i = 0 := by simp [sB] at hi; exact hi
    subst this
    exact (Blk.new w8 9 [.string ⟨#[98]⟩]).cell 0⟩, Nat.le_refl _, Nat.le_refl _⟩)
  have HSM := Lib.hid (same_so _ sB sB v7 ⟨none, 0, some ⟨w8.heap.size, 0, none⟩, 1⟩ (VS8.out.below HBN.out) VS9.out szB szB)
  rw [sameB_self] at HSM
  have HB9 := Lib.hid (HB8.out.trans (HBN.out.mono HB8.out.size))
  generalize vsV sB v7 = V7 at *
  go_wp2_with fail
  refine HSM.out.mono ?_
  rintro e w10 ⟨rfl, b10⟩
  have HB10 := Lib.hid (HB9.out.trans (b10.mono HB9.out.size))
  clear b10
  go_wp2
  go_ret
  exact ⟨rfl, HB10.out⟩
end Go.Proofs.YtffnkomnldgcaaaGreatDoor
