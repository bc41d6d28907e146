/- does, for one head: tools/does.py. -/
import Derived.Test.YtilddhemngcieaaMd3
namespace Go.Proofs.Ytilddhemngcieaa
open Go.RowKit Go.Pal Go.Pal.Dk

set_option linter.unusedSimpArgs false in
set_option linter.unusedVariables false in
set_option maxHeartbeats 2000000 in
set_option maxRecDepth 100000 in
theorem does_n_make {w : World} {base M : Nat} {v : Value} {k : Nat} {room : Nat} {fs : List Fl} (h : MdAt w base M (⟨room, fs, true, none⟩ : Dk) v (k + 1)) (good : GoodD (⟨room, fs, true, none⟩ : Dk)) (hlen : fs.length ≤ 1000000) (hb : base ≤ w.heap.size) (kind : Int) (nm dt : ByteArray) (m : Int) (a : Option Addr) (kl cc : Nat)
    (hk : kind = 0) (hno : nameOk nm = true) (hbig : ¬ room - usedF fs < dt.size) (hat : atF fs nm = none) (hz1 : nm.size ≤ maxLen) (hz2 : dt.size ≤ maxLen) (hcm : -9223372036854775808 ≤ m ∧ m ≤ 9223372036854775807) :
    Calls Try.prog 26 #[.pointer (some ⟨M, 0, none⟩), .agg #[.int .i64 kind, .string nm, .string dt, .int .i64 m, .slice a kl cc]] w fun e w' => e = .returned (.int .i64 (opD (⟨room, fs, true, none⟩ : Dk) kind nm dt m).1) ∧ MWent w base M v (opD (⟨room, fs, true, none⟩ : Dk) kind nm dt m).2 w' := by
  unfold maxLen at hz1 hz2
  obtain ⟨W0, hW0⟩ : ∃ W0, W0 = w.alloc (.cells #[.int .i64 kind, .string nm, .string dt, .int .i64 m, .slice a kl cc] 51) := ⟨_, rfl⟩
  have hm0 : MdAt W0 base M (⟨room, fs, true, none⟩ : Dk) v (k + 1) := by rw [hW0]; exact h.below (new_below w _) (Nat.le_refl _)
  have bx0 : Blk W0 w.heap.size 51 [.int .i64 kind, .string nm, .string dt, .int .i64 m, .slice a kl cc] := by rw [hW0]; exact Blk.new w _ _
  have hMB : M ≠ w.heap.size := Nat.ne_of_lt h.blk.lt
  have GB := Lib.hid (show ∀ g, v.ownBlock = some g → g ≠ w.heap.size from fun g hg => Nat.ne_of_lt (own_lt h.row hg).1)
  have hBM : w.heap.size ≠ M := fun e => hMB e.symm
  have ho0 : Off (MFoot M v) w W0 := by rw [hW0]; exact (Off.refl _ w).alloc _
  have q2 := hm0.blk.cell 2
  have q3 := hm0.blk.cell 3
  have q4 := hm0.blk.cell 4
  have y4 := hm0.blk.frozen 4
  simp only [List.getElem?_cons_zero, List.getElem?_cons_succ, Bool.not_true, Option.isSome_none, Option.isSome_some] at q2 q3 q4
  obtain ⟨W, hW⟩ : ∃ W, W = W0.setCell ⟨M, 4, none⟩ (.int .i64 (k : Int)) := ⟨_, rfl⟩
  have hm : MdAt W base M (⟨room, fs, true, none⟩ : Dk) v k := by
    rw [hW]
    exact hm0.head (on := true) (arm := none) (by have := h.small; omega) (by intro j e; cases e) (grow_set (World.grownBy.refl W0 _) rfl) (hm0.blk.set 4 (.int .i64 (k : Int)))
  have bx : Blk W w.heap.size 51 [.int .i64 kind, .string nm, .string dt, .int .i64 m, .slice a kl cc] := by rw [hW]; exact bx0.other (p := ⟨M, 4, none⟩) hBM _
  have ho : Off (MFoot M v) w W := by rw [hW]; exact ho0.set (p := ⟨M, 4, none⟩) (.inr (.inl rfl)) _
  have hks : (k : Int) ≤ 9223372036854775806 := by have := h.small; omega
  have b0 := bx.cell 0
  have b1 := bx.cell 1
  have b2 := bx.cell 2
  have b3 := bx.cell 3
  simp only [List.getElem?_cons_zero, List.getElem?_cons_succ] at b0 b1 b2 b3
  have HM := Lib.hid hm
  have HO := Lib.hid ho
  have BX := Lib.hid bx
  have HGD := Lib.hid good
  have HR0 := Lib.hid (show begE (⟨room, fs, true, none⟩ : Dk) nm = (if nameOk nm = false then 1 else 0) from rfl)
  have HB0 := Lib.hid (show (begD (⟨room, fs, true, none⟩ : Dk)).2 = (⟨room, fs, true, none⟩ : Dk) from rfl)
  have hroom := good.room
  have hused := good.used
  simp only [] at hroom hused
  rw [hW0] at q2 q3 q4 y4 hW
  clear hm ho bx hm0 bx0 ho0 h good
  subst hk
  have n1 : 1 ≤ nm.size ∧ nm.size ≤ 32 := by simpa [nameOk] using hno
  have e1 : decide ((nm.size : Int) < 1) = false := decide_eq_false (by omega)
  have e2 : decide (32 < (nm.size : Int)) = false := decide_eq_false (by omega)
  have HE := Lib.hid (show begE (⟨room, fs, true, none⟩ : Dk) nm = 0 by rw [HR0.out, hno]; rfl)
  clear hno
  have HUS := Lib.hid (fun (W' : World) (hh : W'.heap = W.heap) => mused_any (HM.out.keep (w' := W') (fun g _ => by rw [hh])) (by show usedF fs ≤ 4194304; omega))
  simp only [] at HUS
  have b00 : ((0 : Int) == 0) = true := rfl
  have hwr : IntKind.i64.wrap ((room : Int) - ((usedF fs : Nat) : Int)) = (room : Int) - ((usedF fs : Nat) : Int) := by rw [IntKind.wrap_i64]; omega
  have q0 := HM.out.blk.cell 0
  simp only [List.getElem?_cons_zero] at q0
  have e3 : decide ((room : Int) - ((usedF fs : Nat) : Int) < (dt.size : Int)) = false := decide_eq_false (by omega)
  have hds : dt.size ≤ 4194304 := by omega
  have HR := Lib.hid (show opD (⟨room, fs, true, none⟩ : Dk) 0 nm dt m = (0, ⟨room, insF ⟨nm, dt, 0⟩ fs, true, none⟩) by
    unfold opD appendD putF
    rw [if_pos rfl, if_neg (by rw [HE.out]; simp), if_neg hbig, HB0.out]
    simp only [hat])
  generalize opD (⟨room, fs, true, none⟩ : Dk) 0 nm dt m = R at *
  have HFD := Lib.hid (mfind_miss HM.out nm hat)
  have HMK := Lib.hid (mmake_any HM.out.drew hlen nm (Nat.le_trans HM.out.mbase (Nat.le_of_lt HM.out.blk.lt)))
  clear hat
  go_enter Try.func26, Try.ntmps26
  go_wp2_with fail
  rw [← hW]
  refine HFD.out.mono ?_
  rintro e w2 ⟨rfl, rfl⟩
  clear hW q2 q3 q4 y4 hW0
  generalize usedF fs = U at *
  go_wp2_with fail
  go_region_law (go_simp; go_at_call 48; refine (HUS.out w2.drew rfl).mono ?_; rintro r w7 ⟨rfl, rfl⟩; simp only [])
  all_goals
    go_wp2_with fail
    refine HMK.out.mono ?_
    rintro e w3 ⟨rfl, v3, hm3, ho3, hn3⟩
    have bx3 : Blk w3 w.heap.size 51 [.int .i64 0, .string nm, .string dt, .int .i64 m, .slice a kl cc] := (ho3.block w.heap.size BX.out.lt hBM).trans BX.out
    have d2 := bx3.cell 2
    simp only [List.getElem?_cons_zero, List.getElem?_cons_succ] at d2
    have hpl := placeF_le nm fs
    have hil : placeF nm fs < (insF ⟨nm, ByteArray.empty, 0⟩ fs).length := by rw [length_insF]; omega
    obtain ⟨p, cap, hv, hlc, hcap, hb1, hp, hc⟩ := hm3.open
    simp only [] at hp hc hb1 hv hlc
    obtain ⟨g, rfl⟩ := hp (by omega)
    subst hv
    have hat' : (insF ⟨nm, ByteArray.empty, 0⟩ fs)[placeF nm fs] = ⟨nm, ByteArray.empty, 0⟩ := by
      have : (insF ⟨nm, ByteArray.empty, 0⟩ fs)[placeF nm fs]? = some ⟨nm, ByteArray.empty, 0⟩ := by
        rw [insF_place]
        dsimp only
        rw [List.getElem?_append_right (by rw [List.length_take]; omega)]
        rw [List.length_take, Nat.min_eq_left hpl, Nat.sub_self]; rfl
      rw [List.getElem?_eq_getElem hil] at this
      exact Option.some.inj this
    obtain ⟨k0, k1, k2⟩ := hc g rfl (placeF nm fs) hil
    rw [hat'] at k1
    clear k0 k2
    have z1 := hm3.frozen (placeF nm fs * 3 + 1)
    have hgM : g ≠ M := fun e => hm3.ne (by rw [e]; rfl)
    have hMg : M ≠ g := fun e => hgM e.symm
    have hgW : w2.heap.size ≤ g := hn3 g rfl
    have hgB : g ≠ w.heap.size := by have := BX.out.lt; omega
    have hBg : w.heap.size ≠ g := fun e => hgB e.symm
    have hsetF : (insF ⟨nm, ByteArray.empty, 0⟩ fs).set (placeF nm fs) ⟨nm, ByteArray.empty ++ dt, 0⟩ = insF ⟨nm, dt, 0⟩ fs := by
      rw [insF_place, insF_place]
      show (fs.take (placeF nm fs) ++ _ :: fs.drop (placeF nm fs)).set _ _ = fs.take (placeF nm fs) ++ _ :: fs.drop (placeF nm fs)
      rw [List.set_append_right _ _ (by rw [List.length_take]; omega), List.length_take, Nat.min_eq_left hpl, Nat.sub_self, List.set_cons_zero]
      congr 3
      try (rw [ByteArray.ext_iff]; simp)
    have HPT := Lib.hid (show MdAt (w3.setCell ⟨g, placeF nm fs * 3 + 1, none⟩ (.string (ByteArray.empty ++ dt))) base M ⟨room, insF ⟨nm, dt, 0⟩ fs, true, none⟩ (.slice (some ⟨g, 0, none⟩) (insF ⟨nm, ByteArray.empty, 0⟩ fs).length cap) k by
      rw [← hsetF]
      exact hm3.put (placeF nm fs) hil 1 (by omega) (.string (ByteArray.empty ++ dt)) ⟨nm, ByteArray.empty ++ dt, 0⟩ (by rw [hat']; rfl))
    have HPO := Lib.hid (show Off (MFoot M v) w (w3.setCell ⟨g, placeF nm fs * 3 + 1, none⟩ (.string (ByteArray.empty ++ dt))) from
      ((HO.out.drew.trans ho3 (fun g' _ e => .inl e)).set (p := ⟨g, placeF nm fs * 3 + 1, none⟩) (.inl (by have := HO.out.size; show w.heap.size ≤ g; omega)) _))
    have hgw : w.heap.size ≤ g := by have := HO.out.size; omega
    clear hp hc hat' hsetF hm3 ho3 hn3 bx3
    generalize (insF ⟨nm, ByteArray.empty, 0⟩ fs).length = LN at *
    generalize placeF nm fs = at_ at *
    have hem : ByteArray.empty.size = 0 := rfl
    generalize ByteArray.empty = em at *
    go_wp2_with fail
    go_region
    all_goals
      go_wp2
      go_ret
      exact ⟨by rw [HR.out]; rfl, by rw [HR.out]; exact ⟨_, _, HPT.out.drew, HPO.out.drew, fun g' hg' => .inr (by have e : g = g' := (by simpa [Value.ownBlock] using hg'); omega)⟩⟩
end Go.Proofs.Ytilddhemngcieaa
