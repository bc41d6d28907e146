/-
  Contracts of the document's Public and Sign, and of the law's own alike.
-/
import Derived.Test.YtanplccigmihfaaGreatDoorW5
import Derived.Test.YtanplccigmihfaaGreatDoorM7
namespace Go.Pal
open Go.RowKit
theorem walkS_take (seed : ByteArray) (leaf : Nat) (st : Nat → Nat) (k : Nat) (hk : k < 67) : (walkL (secretsL seed leaf) st).take (k + 1) = (walkL (secretsL seed leaf) st).take k ++ [chainB k (secretB seed leaf k) (st k)] := by
  have hl : k < (walkL (secretsL seed leaf) st).length := by rw [walkL_length, secretsL_length]; exact hk
  have g := walkL_get (secretsL seed leaf) st k (by rw [secretsL_length]; exact hk)
  rw [secretsL_get seed leaf k hk, List.getD_eq_getElem?_getD, List.getElem?_eq_getElem hl] at g
  rw [List.take_succ_eq_append_getElem hl, ← g]; rfl
end Go.Pal
namespace Go.Proofs.YtanplccigmihfaaGreatDoor
open Go.RowKit Go.Pal

set_option maxHeartbeats 1000000 in
set_option maxRecDepth 100000 in
theorem refpublic (w : World) (seed : ByteArray) (leaf : Nat) (hl : leaf ≤ 65535) (hs : seed.size ≤ 1000000) :
    Calls Tryz.prog 68 #[.string seed, .int .i64 leaf] w fun e w' => e = .returned (.string (publicB seed leaf)) ∧ Below w.heap.size w w' := by
  obtain ⟨i0, hi0, hz0, hz1, hz2⟩ := info_parts (show (Tryz.prog.info? 9).map (fun i => (i.zero, i.size, i.bytes)) = some (some (.string ⟨#[]⟩), 1, 16) by kernel_rfl)
  have HSE := Lib.hid (fun W (k : Nat) hk => refsecret W seed leaf k hl hk hs)
  have HCH := Lib.hid (fun W (k : Nat) => refchain_any W k 15 (secretB seed leaf k) (by rw [secretB, shaB_size']; omega))
  rw [show stepsN 15 = 15 from rfl] at HCH
  have HTK := Lib.hid (fun k hk => walkS_take seed leaf (fun _ => 15) k hk)
  have hel : (endsL seed leaf).length = 67 := by rw [endsL, walkL_length, secretsL_length]
  have htot : totL (endsL seed leaf) ≤ 9000000 := by
    have := totL_le (endsL seed leaf) 32 (walkL_le _ _ 32 (by omega) (secretsL_le seed leaf))
    rw [hel] at this; omega
  have HTG := Lib.hid (fun W a c h => reftag_any W 3 a c (endsL seed leaf) h htot (by omega))
  rw [hel] at HTG
  rw [← show publicB seed leaf = shaB ⟨(inputL 3 (endsL seed leaf)).toArray⟩ from rfl] at HTG
  rw [show (walkL (secretsL seed leaf) fun _ => 15) = endsL seed leaf from rfl] at HTK
  have HEL := Lib.hid hel
  generalize publicB seed leaf = P at *
  generalize endsL seed leaf = E at *
  clear htot hel hs
  go_enter Tryz.func68, Tryz.ntmps68
  go_wp2
  go_loopw [5, 6] (fun v i wr => ∃ k : Nat, k ≤ 67 ∧ i = .int .i64 k ∧ wr.ownsRow w.heap.size 9 1 v k ((E.take k).map strV) ∧ Below w.heap.size w wr) (fun _ i _ => 67 - (intOf i).toNat)
  case atStart => exact ⟨0, by omega, rfl, World.ownsRow_nil _ _ _ _, Below.refl _ _⟩
  case round =>
    obtain ⟨k, hk, rfl, hown, hb⟩ := hrel
    by_cases hlt : k < 67
    · have htk := HTK.out k hlt
      have hse := HSE.out wr k hlt
      have hch := fun W => HCH.out W k
      generalize secretB seed leaf k = x at *
      generalize chainB k x 15 = z at *
      have HSEK := Lib.hid hse
      have HCHK := Lib.hid hch
      have HT1 := Lib.hid htk
      have HO := Lib.hid hown
      have HB := Lib.hid hb
      have HC1 : Hid (k + 1 ≤ maxLen) := Lib.hid (by unfold maxLen; omega)
      have HC2 : Hid ((k + 1) * 16 ≤ 140737488355328) := Lib.hid (by omega)
      clear htk hse hch hown hb HSE HCH HTK
      go_wp2_with fail
      refine HSEK.out.mono ?_
      rintro e w1 ⟨rfl, b1⟩
      have O1 := Lib.hid (HO.out.kept (Lib.grownBy_below (World.grownBy.refl wr none) b1) (by cases h : Value.ownBlock _ <;> simp))
      have B1 := Lib.hid (HB.out.trans (b1.mono HB.out.size))
      clear b1 HO HB
      go_wp2_with fail
      refine (HCHK.out _).mono ?_
      rintro e w2 ⟨rfl, b2⟩
      have O2 := Lib.hid (O1.out.kept (Lib.grownBy_below (World.grownBy.refl w1 none) b2) (by cases h : Value.ownBlock _ <;> simp))
      have B2 := Lib.hid (B1.out.trans (b2.mono B1.out.size))
      have HC3 : Hid (∀ o : Obj, w.heap.size ≤ (w2.alloc o).heap.size) := Lib.hid (fun o => by have := B2.out.size; simp; omega)
      clear b2 O1 B1
      go_wp2_with (at_builtin; refine wpList_append_lies _ rfl _ _ 39 rfl w.heap.size 9 i0 (.string ⟨#[]⟩) 1 16 Tryz.underlying39 hi0 hz0 hz1 hz2 rfl (by omega) _ k _ rfl (O2.out.alloc _) ⟨w2.heap.size, 0, none⟩ 1 1 [strV z] rfl rfl (World.news_of_block (cs := #[strV z]) (t := 9) (fr := (0, 0)) (heap_alloc_new w2 _)) (strV_one z) (by omega) HC1.out HC2.out (HC3.out _) (w2.heap.size + 1) (by simp) ?_)
      intro g3 cap3 w3 hown3 hg3 _ _
      have B3 := Lib.hid ((B2.out.alloc B2.out.size _).grown hg3 (HC3.out _) (fun j hj => (O2.out.lt j hj).1))
      have O3 := Lib.hid hown3
      clear hown3 hg3 O2 B2
      go_wp2
      go_roundw
      case rel => exact ⟨k + 1, by omega, by go_num, by rw [HT1.out, List.map_append, List.map_take]; exact O3.out, B3.out⟩
      case measure => simp [intOf]; omega
    · obtain rfl : k = 67 := by omega
      rw [List.take_of_length_le (by rw [HEL.out]; omega)] at hown
      obtain ⟨a2, c2, rfl, hrow⟩ := own_strs hown HEL.out
      rw [HEL.out]
      have HTGK := Lib.hid (HTG.out wr a2 c2 hrow)
      have HB := Lib.hid hb
      clear hown hrow hb
      rw [show ((67 : Nat) : Int) = 67 from rfl]
      go_wp2_with fail
      refine HTGK.out.mono ?_
      rintro e w2 ⟨rfl, b2⟩
      have B2 := Lib.hid (HB.out.trans (b2.mono HB.out.size))
      clear b2
      go_wp2
      go_ret
      exact ⟨rfl, B2.out⟩


set_option maxHeartbeats 2000000 in
set_option maxRecDepth 100000 in
theorem refsign (w : World) (seed : ByteArray) (leaf : Nat) (d : ByteArray) (hl : leaf ≤ 65535) (hs : seed.size ≤ 1000000) (hd : d.size = 32) :
    Calls Tryz.prog 46 #[.string seed, .int .i64 leaf, .string d] w fun e w' => (∃ a c, e = .returned (.slice a 67 c) ∧ StrRow w' a (signL seed leaf (digL d.data.toList))) ∧ Below w.heap.size w w' := by
  obtain ⟨i0, hi0, hz0, hz1, hz2⟩ := info_parts (show (Tryz.prog.info? 9).map (fun i => (i.zero, i.size, i.bytes)) = some (some (.string ⟨#[]⟩), 1, 16) by kernel_rfl)
  have HD := Lib.hid (refdigits d hd w)
  have hdl := digL_length d.data.toList
  have h16 := getD_lt (digL d.data.toList) 16 (by omega) (digL_lt d.data.toList (by simp; omega))
  rw [show d.data.toList.length = 32 by simp [hd]] at hdl
  generalize digL d.data.toList = dl at *
  have HSE := Lib.hid (fun W (k : Nat) hk => refsecret W seed leaf k hl hk hs)
  have HCH := Lib.hid (fun W (k : Nat) => (show Calls Tryz.prog 84 #[.int .i64 (k : Int), .string (secretB seed leaf k), .int .i64 ((dl.getD k 0 : Nat) : Int)] W fun e w' => e = .returned (.string (chainB k (secretB seed leaf k) (dl.getD k 0))) ∧ Below W.heap.size W w' from by
    have h := refchain_any W k ((dl.getD k 0 : Nat) : Int) (secretB seed leaf k) (by rw [secretB, shaB_size']; omega)
    rw [stepsN_nat _ (by have := h16 k; omega)] at h
    exact h))
  have HTK := Lib.hid (fun k hk => walkS_take seed leaf (fun k => dl.getD k 0) k hk)
  rw [show (walkL (secretsL seed leaf) fun k => dl.getD k 0) = signL seed leaf dl from rfl] at HTK
  have hel : (signL seed leaf dl).length = 67 := by rw [signL, walkL_length, secretsL_length]
  have HEL := Lib.hid hel
  have H16 := Lib.hid h16
  have HDL := Lib.hid hdl
  generalize signL seed leaf dl = E at *
  clear hel hs h16 hdl
  go_enter Tryz.func46, Tryz.ntmps46
  go_wp2_with fail
  refine HD.out.mono ?_
  rintro e w1 ⟨⟨v, rfl, hown1⟩, b1⟩
  obtain ⟨dg, dc, rfl, _, hdg⟩ := hown1.form (by omega)
  have HDC := Lib.hid (fun k (hk : k < 67) => (hown1.cellAt k (by omega)).trans (ints_get? dl k (by have := HDL.out; omega)))
  have B1 := Lib.hid b1
  clear b1 hown1 HD
  go_wp2
  go_loopw [8, 9] (fun v i wr => ∃ k : Nat, k ≤ 67 ∧ i = .int .i64 k ∧ wr.ownsRow w1.heap.size 9 1 v k ((E.take k).map strV) ∧ Below w1.heap.size w1 wr) (fun _ i _ => 67 - (intOf i).toNat)
  case atStart => exact ⟨0, by omega, rfl, World.ownsRow_nil _ _ _ _, Below.refl _ _⟩
  case round =>
    obtain ⟨k, hk, rfl, hown, hb⟩ := hrel
    by_cases hlt : k < 67
    · have htk := HTK.out k hlt
      have hd16 := H16.out k
      have k1 := HDC.out k hlt
      have q1 := (hb.cell (p := ⟨dg, k, none⟩) hdg).trans k1
      have hse := fun (Wq : World) (hWq : Below w1.heap.size w1 Wq) (hO : Wq.ownsRow w1.heap.size 9 1 u8 k ((E.take k).map strV)) => (HSE.out Wq k hlt).mono (fun e w' (h : e = .returned (.string (secretB seed leaf k)) ∧ Below Wq.heap.size Wq w') => (show e = .returned (.string (secretB seed leaf k)) ∧ Below w1.heap.size w1 w' ∧ w'.ownsRow w1.heap.size 9 1 u8 k ((E.take k).map strV) from ⟨h.1, hWq.trans (h.2.mono hWq.size), hO.kept (Lib.grownBy_below (World.grownBy.refl _ none) h.2) (by cases h : Value.ownBlock _ <;> simp)⟩))
      have hch := fun (Wq : World) (hWq : Below w1.heap.size w1 Wq) (hO : Wq.ownsRow w1.heap.size 9 1 u8 k ((E.take k).map strV)) => (HCH.out Wq k).mono (fun e w' (h : e = .returned (.string (chainB k (secretB seed leaf k) (dl.getD k 0))) ∧ Below Wq.heap.size Wq w') => (show e = .returned (.string (chainB k (secretB seed leaf k) (dl.getD k 0))) ∧ Below w1.heap.size w1 w' ∧ w'.ownsRow w1.heap.size 9 1 u8 k ((E.take k).map strV) from ⟨h.1, hWq.trans (h.2.mono hWq.size), hO.kept (Lib.grownBy_below (World.grownBy.refl _ none) h.2) (by cases h : Value.ownBlock _ <;> simp)⟩))
      generalize dl.getD k 0 = dk at *
      generalize secretB seed leaf k = x at *
      generalize chainB k x dk = z at *
      have HSEK := Lib.hid hse
      have HCHK := Lib.hid hch
      have HT1 := Lib.hid htk
      have HO := Lib.hid hown
      have HB := Lib.hid hb
      have HC1 : Hid (k + 1 ≤ maxLen) := Lib.hid (by unfold maxLen; omega)
      have HC2 : Hid ((k + 1) * 16 ≤ 140737488355328) := Lib.hid (by omega)
      have hk0 : (0 : Int) ≤ (k : Int) := by omega
      have hk1 : (k : Int) < 67 := by omega
      clear htk hse hch hown hb HSE HCH HTK
      go_wp2
      go_region_held3 (fun w' => w'.cell? ⟨dg, k, none⟩ = some (.int .i64 (dk : Int)))
        (first | exact (b8.cell (p := ⟨dg, k, none⟩) hdg).trans k1 | exact ((b7.alloc b7.size _).cell (p := ⟨dg, k, none⟩) hdg).trans k1 | exact (b7.cell (p := ⟨dg, k, none⟩) hdg).trans k1 | exact (b6.cell (p := ⟨dg, k, none⟩) hdg).trans k1 | go_keep)
        (first | (go_at_call 85; refine (HSEK.out _ (HB.out.drew) (HO.out.drew)).mono ?_; rintro e w6 ⟨rfl, b6, o6⟩) | (go_at_call 84; refine (HCHK.out _ b6 o6).mono ?_; rintro e w7 ⟨rfl, b7, o7⟩) | (refine step_append_lies _ (by rfl) _ _ _ (by rfl) w1.heap.size 9 i0 (.string ⟨#[]⟩) 1 16 Tryz.underlying39 hi0 hz0 hz1 hz2 rfl (by omega) _ k _ (by rfl) (o7.alloc _) ⟨w7.heap.size, 0, none⟩ 1 1 [strV z] (by rfl) (by rfl) (World.news_of_block (cs := #[strV z]) (t := 9) (fr := (0, 0)) (heap_alloc_new w7 _)) (strV_one z) (by omega) HC1.out HC2.out (by have := b7.size; simp; omega) (w7.heap.size + 1) (by simp) ?_; intro g8 cap8 w8 hown8 hg8 _ _; have b8 := (b7.alloc b7.size _).grown hg8 (by have := b7.size; simp; omega) (fun q hq => (o7.lt q hq).1)))
      have HO8 := Lib.hid hown8
      have HB8 := Lib.hid b8
      clear hown8 hg8 b8 o7 b7 o6 b6
      go_wp2
      go_roundw
      case rel => exact ⟨k + 1, by omega, by go_num, by rw [HT1.out, List.map_append]; exact HO8.out, HB8.out⟩
      case measure => simp [intOf]; omega
    · obtain rfl : k = 67 := by omega
      rw [List.take_of_length_le (by rw [HEL.out]; omega)] at hown
      obtain ⟨a2, c2, rfl, hrow⟩ := own_strs hown HEL.out
      rw [HEL.out]
      have HROW := Lib.hid hrow
      have B2 := Lib.hid (B1.out.trans (hb.mono B1.out.size))
      clear hown hrow hb
      rw [show ((67 : Nat) : Int) = 67 from rfl]
      go_wp2
      go_ret
      exact ⟨⟨_, _, rfl, HROW.out⟩, B2.out⟩

end Go.Proofs.YtanplccigmihfaaGreatDoor
