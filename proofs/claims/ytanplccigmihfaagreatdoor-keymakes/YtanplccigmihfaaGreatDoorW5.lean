/-
  Contracts of wots.Public, wots.Sign and wots.Recover.
-/
import Derived.Test.YtanplccigmihfaaGreatDoorW4
namespace Go.Pal
open Go.RowKit
theorem totL_le (l : List ByteArray) (B : Nat) (h : ∀ i, (l.getD i ByteArray.empty).size ≤ B) : totL l ≤ l.length * (4 + B) := by
  induction l with
  | nil => simp [totL]
  | cons x l ih =>
    have e : totL (x :: l) = (4 + x.size) + totL l := by simp [totL]
    have h0 : x.size ≤ B := by simpa using h 0
    have h1 := ih (fun i => by simpa using h (i + 1))
    rw [e, List.length_cons, Nat.succ_mul]; omega
theorem chainB_le (k : Int) (x : ByteArray) (B : Nat) (hB : 32 ≤ B) (hx : x.size ≤ B) : ∀ n, (chainB k x n).size ≤ B
  | 0 => hx
  | n + 1 => by rw [chainB, stepB, shaB_size']; exact hB
theorem walkL_le (vs : List ByteArray) (st : Nat → Nat) (B : Nat) (hB : 32 ≤ B) (h : ∀ i, (vs.getD i ByteArray.empty).size ≤ B) (i : Nat) : ((walkL vs st).getD i ByteArray.empty).size ≤ B := by
  by_cases hi : i < vs.length
  · rw [walkL_get vs st i hi]; exact chainB_le _ _ B hB (h i) _
  · rw [List.getD_eq_getElem?_getD, List.getElem?_eq_none (by rw [walkL_length]; omega)]
    show ByteArray.empty.size ≤ _; exact Nat.zero_le _
theorem secretsL_le (seed : ByteArray) (leaf i : Nat) : ((secretsL seed leaf).getD i ByteArray.empty).size ≤ 32 := by
  by_cases hi : i < 67
  · rw [secretsL_get seed leaf i hi, secretB, shaB_size']; exact Nat.le_refl _
  · rw [List.getD_eq_getElem?_getD, List.getElem?_eq_none (by rw [secretsL_length]; omega)]
    show ByteArray.empty.size ≤ _; exact Nat.zero_le _
theorem secrets_small (seed : ByteArray) (leaf : Nat) : SmallL (secretsL seed leaf) := fun i => by have := secretsL_le seed leaf i; omega
def endsL (seed : ByteArray) (leaf : Nat) : List ByteArray := walkL (secretsL seed leaf) fun _ => 15
def publicB (seed : ByteArray) (leaf : Nat) : ByteArray := shaB ⟨(inputL 3 (endsL seed leaf)).toArray⟩
def signL (seed : ByteArray) (leaf : Nat) (dl : List Nat) : List ByteArray := walkL (secretsL seed leaf) fun k => dl.getD k 0
def recoverB (dl : List Nat) (vs : List ByteArray) : ByteArray := shaB ⟨(inputL 3 (walkL vs fun k => 15 - dl.getD k 0)).toArray⟩
theorem chainB_add (k : Int) (x : ByteArray) (m : Nat) : ∀ n, chainB k (chainB k x m) n = chainB k x (m + n)
  | 0 => rfl
  | n + 1 => by rw [chainB, chainB_add k x m n]; rfl
/-- What is signed is recovered. -/
theorem sign_back (seed : ByteArray) (leaf : Nat) (dl : List Nat) (h : ∀ k, dl.getD k 0 < 16) : recoverB dl (signL seed leaf dl) = publicB seed leaf := by
  unfold recoverB publicB
  congr 4
  unfold endsL signL
  apply List.ext_getElem?
  intro k
  by_cases hk : k < 67
  · have l1 : (walkL (walkL (secretsL seed leaf) fun k => dl.getD k 0) fun k => 15 - dl.getD k 0).length = 67 := by rw [walkL_length, walkL_length, secretsL_length]
    have l2 : (walkL (secretsL seed leaf) fun _ => 15).length = 67 := by rw [walkL_length, secretsL_length]
    have g1 := walkL_get (walkL (secretsL seed leaf) fun k => dl.getD k 0) (fun k => 15 - dl.getD k 0) k (by rw [walkL_length, secretsL_length]; exact hk)
    rw [walkL_get (secretsL seed leaf) (fun k => dl.getD k 0) k (by rw [secretsL_length]; exact hk), chainB_add] at g1
    have g2 := walkL_get (secretsL seed leaf) (fun _ => 15) k (by rw [secretsL_length]; exact hk)
    have hd := h k
    rw [show dl.getD k 0 + (15 - dl.getD k 0) = 15 by omega, ← g2] at g1
    rw [List.getD_eq_getElem?_getD, List.getD_eq_getElem?_getD, List.getElem?_eq_getElem (by omega), List.getElem?_eq_getElem (by omega)] at g1
    rw [List.getElem?_eq_getElem (by omega), List.getElem?_eq_getElem (by omega)]
    exact congrArg some g1
  · rw [List.getElem?_eq_none (by rw [walkL_length, walkL_length, secretsL_length]; omega), List.getElem?_eq_none (by rw [walkL_length, secretsL_length]; omega)]
end Go.Pal
namespace Go.Proofs.YtanplccigmihfaaGreatDoor
open Go.RowKit Go.Pal

set_option maxHeartbeats 1000000 in
theorem public_yes (w : World) (seed : ByteArray) (leaf : Nat) (hl : leaf ≤ 65535) (hs : seed.size ≤ 1000000) (ht : Tabs w) :
    Calls Tryz.prog 65 #[.string seed, .int .i64 leaf] w fun e w' => e = .returned (.tuple #[.string (publicB seed leaf), .bool true]) ∧ Below w.heap.size w w' := by
  have HSE := Lib.hid (secrets_yes w seed leaf hl hs ht)
  have HW := Lib.hid (fun W b h1 h2 hT => walk_public W b 0 67 (secretsL seed leaf) h1 h2 (secretsL_length _ _) (secrets_small _ _) hT)
  have hel : (endsL seed leaf).length = 67 := by rw [endsL, walkL_length, secretsL_length]
  have htot : totL (endsL seed leaf) ≤ 2147483647 := by
    have := totL_le (endsL seed leaf) 32 (walkL_le _ _ 32 (by omega) (secretsL_le seed leaf))
    rw [hel] at this; omega
  have HTG := Lib.hid (fun W a c hT h => tag_any W 3 a c (endsL seed leaf) hT h htot (by omega))
  rw [hel] at HTG
  have hp : publicB seed leaf = shaB ⟨(inputL 3 (endsL seed leaf)).toArray⟩ := rfl
  rw [← hp] at HTG
  rw [show (walkL (secretsL seed leaf) fun _ => 15) = endsL seed leaf from rfl] at HW
  have HT := Lib.hid ht
  generalize publicB seed leaf = P at *
  generalize endsL seed leaf = E at *
  generalize secretsL seed leaf = S at *
  clear ht hel htot hp
  go_enter Tryz.func65, Tryz.ntmps65
  go_wp2_with fail
  refine HSE.out.mono ?_
  rintro e w1 ⟨rfl, r1, z1, b1⟩
  have B1 := Lib.hid b1
  have R1 := Lib.hid r1
  have Z1 := Lib.hid z1
  clear b1 r1 z1
  go_wp2_with fail
  refine (HW.out _ _ R1.out Z1.out (HT.out.below B1.out)).mono ?_
  rintro e w2 ⟨rfl, r2, z2, b2⟩
  have B2 := Lib.hid (B1.out.trans (b2.mono B1.out.size))
  have R2 := Lib.hid r2
  clear b2 r2 z2
  go_wp2_with fail
  refine (HTG.out _ _ _ (HT.out.below B2.out) R2.out).mono ?_
  rintro e w3 ⟨rfl, b3⟩
  have B3 := Lib.hid (B2.out.trans (b3.mono B2.out.size))
  clear b3
  go_wp2
  go_ret2
  exact ⟨rfl, B3.out⟩

set_option maxHeartbeats 400000 in
theorem public_no (w : World) (seed : ByteArray) (leaf : Int) (h : leaf < 0 ∨ 65535 < leaf) (ml : leaf ≤ 9223372036854775807) :
    Calls Tryz.prog 65 #[.string seed, .int .i64 leaf] w fun e w' => e = .returned (.tuple #[.string ⟨#[]⟩, .bool false]) ∧ Below w.heap.size w w' := by
  have HSE := Lib.hid (secrets_no w seed leaf h ml)
  clear h ml
  go_enter Tryz.func65, Tryz.ntmps65
  go_wp2_with fail
  refine HSE.out.mono ?_
  rintro e w1 ⟨rfl, b1⟩
  have B1 := Lib.hid b1
  clear b1
  go_wp2
  go_ret2
  exact ⟨rfl, B1.out⟩

set_option maxHeartbeats 1000000 in
set_option maxRecDepth 100000 in
theorem sign_yes (w : World) (seed : ByteArray) (leaf : Nat) (d : ByteArray) (hl : leaf ≤ 65535) (hs : seed.size ≤ 1000000) (hd : d.size = 32) (ht : Tabs w) :
    Calls Tryz.prog 38 #[.string seed, .int .i64 leaf, .string d] w fun e w' => (∃ g, e = .returned (.tuple #[.slice (some ⟨g, 0, none⟩) 67 67, .bool true]) ∧ StrRow w' (some ⟨g, 0, none⟩) (signL seed leaf (digL d.data.toList)) ∧ g < w'.heap.size) ∧ Below w.heap.size w w' := by
  have hmf : ∀ (fn : Fn) (first cap : Array Value) (w : World), (Instr.makeFunc fn first cap).run Tryz.prog w = .ok (.func fn first cap) w := fun _ _ _ _ => rfl
  have HD := Lib.hid (digits_yes d hd w)
  have HSE := Lib.hid (fun W hT => secrets_yes W seed leaf hl hs hT)
  have hdl := digL_length d.data.toList
  have h16 := getD_lt (digL d.data.toList) 16 (by omega) (digL_lt d.data.toList (by simp; omega))
  rw [show d.data.toList.length = 32 by simp [hd]] at hdl
  rw [show signL seed leaf (digL d.data.toList) = walkL (secretsL seed leaf) fun k => (digL d.data.toList).getD k 0 from rfl]
  generalize digL d.data.toList = dl at *
  have HW := Lib.hid (fun W b db dg dc h1 h2 h3 h4 h5 h6 hT => walk_sign W b 0 67 (secretsL seed leaf) db dg dc dl h1 h2 h3 h4 h16 h5 h6 (secretsL_length _ _) (secrets_small _ _) hT)
  have HT := Lib.hid ht
  have HDL := Lib.hid hdl
  obtain ⟨Wl, hWl⟩ : ∃ Wl, Wl = walkL (secretsL seed leaf) fun k => dl.getD k 0 := ⟨_, rfl⟩
  rw [← hWl] at HW ⊢
  generalize secretsL seed leaf = S at *
  clear ht hdl h16 hWl
  go_enter Tryz.func38, Tryz.ntmps38
  go_wp2_with fail
  refine HD.out.mono ?_
  rintro e w1 ⟨⟨v, rfl, hown⟩, b1⟩
  obtain ⟨dg, dc, rfl, _, hdg⟩ := hown.form (by omega)
  have HDC := Lib.hid (fun k (hk : k < 67) => (hown.cellAt k (by omega)).trans (ints_get? dl k (by have := HDL.out; omega)))
  have B1 := Lib.hid b1
  clear b1 hown
  go_wp2_with fail
  have c2 := B1.out.alloc B1.out.size (.cells #[.slice (some ⟨dg, 0, none⟩) 67 dc] 109)
  refine (HSE.out _ (HT.out.below c2)).mono ?_
  rintro e w3 ⟨rfl, r3, z3, b3⟩
  rw [show (w1.alloc (.cells #[.slice (some ⟨dg, 0, none⟩) 67 dc] 109)).heap.size = w1.heap.size + 1 by simp] at r3 z3
  have B3 := Lib.hid (c2.trans (b3.mono c2.size))
  have R3 := Lib.hid r3
  have Z3 := Lib.hid z3
  have hnew : (w1.alloc (.cells #[.slice (some ⟨dg, 0, none⟩) 67 dc] 109)).cell? ⟨w1.heap.size, 0, none⟩ = some (.slice (some ⟨dg, 0, none⟩) 67 dc) := (Blk.new w1 109 [.slice (some ⟨dg, 0, none⟩) 67 dc]).cell 0
  have P0 := Lib.hid ((b3.cell (p := ⟨w1.heap.size, 0, none⟩) (by simp)).trans hnew)
  have P1 := Lib.hid (fun k (hk : k < 67) => (b3.cell (p := ⟨dg, k, none⟩) (by simp; omega)).trans ((World.cell?_of_block (heap_alloc_old w1 _ hdg)).trans (HDC.out k hk)))
  have L0 : Hid (w1.heap.size < w3.heap.size) := Lib.hid (by have := b3.size; simp at this; omega)
  clear b3 c2 r3 z3 hnew
  go_wp2_with fail
  refine (HW.out _ _ _ _ _ P0.out P1.out L0.out (Nat.lt_trans hdg L0.out) R3.out Z3.out (HT.out.below B3.out)).mono ?_
  rintro e w4 ⟨rfl, r4, z4, b4⟩
  have B4 := Lib.hid (B3.out.trans (b4.mono B3.out.size))
  have R4 := Lib.hid r4
  have Z4 := Lib.hid z4
  clear b4 r4 z4
  go_wp2
  go_ret2
  exact ⟨⟨_, rfl, R4.out, Z4.out⟩, B4.out⟩

set_option maxHeartbeats 1000000 in
set_option maxRecDepth 100000 in
theorem recover_yes (w : World) (d : ByteArray) (b off cap : Nat) (vs : List ByteArray) (hd : d.size = 32) (hv : StrRow w (some ⟨b, off, none⟩) vs) (hbl : b < w.heap.size) (hlen : vs.length = 67) (hsm : SmallL vs) (ht : Tabs w) :
    Calls Tryz.prog 56 #[.string d, .slice (some ⟨b, off, none⟩) 67 cap] w fun e w' => e = .returned (.tuple #[.string (recoverB (digL d.data.toList) vs), .bool true]) ∧ Below w.heap.size w w' := by
  have hmf : ∀ (fn : Fn) (first cap : Array Value) (w : World), (Instr.makeFunc fn first cap).run Tryz.prog w = .ok (.func fn first cap) w := fun _ _ _ _ => rfl
  have HD := Lib.hid (digits_yes d hd w)
  have hdl := digL_length d.data.toList
  have h16 := getD_lt (digL d.data.toList) 16 (by omega) (digL_lt d.data.toList (by simp; omega))
  rw [show d.data.toList.length = 32 by simp [hd]] at hdl
  generalize digL d.data.toList = dl at *
  have HW := Lib.hid (fun W db dg dc h1 h2 h3 h4 h5 h6 hT => walk_recover W b off cap vs db dg dc dl h1 h2 h3 h4 h16 h5 h6 hlen hsm hT)
  have hel : (walkL vs fun k => 15 - dl.getD k 0).length = 67 := by rw [walkL_length, hlen]
  have htot : totL (walkL vs fun k => 15 - dl.getD k 0) ≤ 2147483647 := by
    have := totL_le (walkL vs fun k => 15 - dl.getD k 0) 1000000 (walkL_le _ _ 1000000 (by omega) hsm)
    rw [hel] at this; omega
  have HTG := Lib.hid (fun W a c hT h => tag_any W 3 a c (walkL vs fun k => 15 - dl.getD k 0) hT h htot (by omega))
  rw [hel] at HTG
  have hp : recoverB dl vs = shaB ⟨(inputL 3 (walkL vs fun k => 15 - dl.getD k 0)).toArray⟩ := rfl
  rw [← hp] at HTG
  generalize recoverB dl vs = P at *
  obtain ⟨Wl, hWl⟩ : ∃ Wl, Wl = walkL vs fun k => 15 - dl.getD k 0 := ⟨_, rfl⟩
  rw [← hWl] at HW HTG
  have HT := Lib.hid ht
  have HV := Lib.hid hv
  have HDL := Lib.hid hdl
  clear ht hdl h16 hel htot hp hsm hlen hv hWl
  go_enter Tryz.func56, Tryz.ntmps56
  go_wp2_with fail
  refine HD.out.mono ?_
  rintro e w1 ⟨⟨v, rfl, hown⟩, b1⟩
  obtain ⟨dg, dc, rfl, _, hdg⟩ := hown.form (by omega)
  have HDC := Lib.hid (fun k (hk : k < 67) => (hown.cellAt k (by omega)).trans (ints_get? dl k (by have := HDL.out; omega)))
  have B1 := Lib.hid b1
  clear b1 hown
  go_wp2_with fail
  have c2 := B1.out.alloc B1.out.size (.cells #[.slice (some ⟨dg, 0, none⟩) 67 dc] 109)
  have hnew : (w1.alloc (.cells #[.slice (some ⟨dg, 0, none⟩) 67 dc] 109)).cell? ⟨w1.heap.size, 0, none⟩ = some (.slice (some ⟨dg, 0, none⟩) 67 dc) := (Blk.new w1 109 [.slice (some ⟨dg, 0, none⟩) 67 dc]).cell 0
  refine (HW.out _ _ _ _ hnew (fun k hk => (World.cell?_of_block (heap_alloc_old w1 _ hdg)).trans (HDC.out k hk)) (by simp) (by simp; omega) (HV.out.below c2) (Nat.lt_of_lt_of_le hbl c2.size) (HT.out.below c2)).mono ?_
  rintro e w4 ⟨rfl, r4, z4, b4⟩
  rw [show (w1.alloc (.cells #[.slice (some ⟨dg, 0, none⟩) 67 dc] 109)).heap.size = w1.heap.size + 1 by simp] at r4
  have B4 := Lib.hid (c2.trans (b4.mono c2.size))
  have R4 := Lib.hid r4
  clear b4 r4 z4 c2 hnew
  go_wp2_with fail
  refine (HTG.out _ _ _ (HT.out.below B4.out) R4.out).mono ?_
  rintro e w5 ⟨rfl, b5⟩
  have B5 := Lib.hid (B4.out.trans (b5.mono B4.out.size))
  clear b5
  go_wp2
  go_ret2
  exact ⟨rfl, B5.out⟩

end Go.Proofs.YtanplccigmihfaaGreatDoor
