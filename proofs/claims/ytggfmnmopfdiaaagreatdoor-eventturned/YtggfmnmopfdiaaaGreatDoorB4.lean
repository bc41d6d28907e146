/-
  Contracts of the document's Public and Sign, and of the law's own alike.
  Contract of the document's Recover.
  Contract of the law's own size of texts.
  P2.4: unlike tags (bytes) or lists of texts have unlike inputs, like ones one: for every two bytes and every two lists of texts.
  The tables of the program start as its text lays them (the card ties them).
  Plain mathematics for layer 3: of two unlike digests each has a digit that is lower. No program in sight.
  Plain mathematics for layer 4: where two ways part, two unlike inputs have one digest.
  Plain mathematics for layer 4: the root of leaves of which one is another one.
  The law's own clash; plain: a turned value that leads to the same public comes with two unlike texts of one digest.
-/
import Derived.Test.YtggfmnmopfdiaaaGreatDoorB2
import Derived.Test.YtggfmnmopfdiaaaGreatDoorB3
import Derived.Test.YtggfmnmopfdiaaaGreatDoorIn2
import Derived.Test.YtggfmnmopfdiaaaGreatDoorLaid
import Derived.ProofKit
import Derived.OpenShut
import Derived.ShutString
import Derived.ChangeOld
import Derived.SevenTiedAt
import Derived.SliceStrings
import Derived.Test.YtggfmnmopfdiaaaGreatDoorB1
namespace Go.Pal
open Go.RowKit
theorem walkS_take (seed : ByteArray) (leaf : Nat) (st : Nat → Nat) (k : Nat) (hk : k < 67) : (walkL (secretsL seed leaf) st).take (k + 1) = (walkL (secretsL seed leaf) st).take k ++ [chainB k (secretB seed leaf k) (st k)] := by
  have hl : k < (walkL (secretsL seed leaf) st).length := by rw [walkL_length, secretsL_length]; exact hk
  have g := walkL_get (secretsL seed leaf) st k (by rw [secretsL_length]; exact hk)
  rw [secretsL_get seed leaf k hk, List.getD_eq_getElem?_getD, List.getElem?_eq_getElem hl] at g
  rw [List.take_succ_eq_append_getElem hl, ← g]; rfl
end Go.Pal
namespace Go.Proofs.YtggfmnmopfdiaaaGreatDoor
open Go.RowKit Go.Pal

set_option maxHeartbeats 1000000 in
set_option maxRecDepth 100000 in
theorem refpublic (w : World) (seed : ByteArray) (leaf : Nat) (hl : leaf ≤ 65535) (hs : seed.size ≤ 1000000) :
    Calls Tryz.prog 60 #[.string seed, .int .i64 leaf] w fun e w' => e = .returned (.string (publicB seed leaf)) ∧ Below w.heap.size w w' := by
  obtain ⟨i0, hi0, hz0, hz1, hz2⟩ := info_parts (show (Tryz.prog.info? 9).map (fun i => (i.zero, i.size, i.bytes)) = some (some (.string ⟨#[]⟩), 1, 16) by kernel_rfl)
  have HSE := Lib.hid (fun W (k : Nat) hk => refsecret W seed leaf k hl hk hs)
  have HCH := Lib.hid (fun W (k : Nat) => refchain_any W k 15 (secretB seed leaf k) (by rw [secretB, shaB_size']; omega))
  rw [show stepsN 15 = 15 from rfl] at HCH
  have HTK := Lib.hid (fun k hk => walkS_take seed leaf (fun _ => 15) k hk)
  have hel : (endsL seed leaf).length = 67 := by rw [endsL, walkL_length, secretsL_length]
  have htot : totL (endsL seed leaf) ≤ 9000000 := by
    have := totL_le (endsL seed leaf) 32 (walkL_le _ _ 32 (by omega) (secretsL_le seed leaf))
    rw [hel] at this; omega
  have HTG := Lib.hid (fun W a c h => reftag_any W 3 a c (endsL seed leaf) h htot (by omega))
  rw [hel] at HTG
  rw [← show publicB seed leaf = shaB ⟨(inputL 3 (endsL seed leaf)).toArray⟩ from rfl] at HTG
  rw [show (walkL (secretsL seed leaf) fun _ => 15) = endsL seed leaf from rfl] at HTK
  have HEL := Lib.hid hel
  generalize publicB seed leaf = P at *
  generalize endsL seed leaf = E at *
  clear htot hel hs
  go_enter Tryz.func60, Tryz.ntmps60
  go_wp2
  go_loopw [5, 6] (fun v i wr => ∃ k : Nat, k ≤ 67 ∧ i = .int .i64 k ∧ wr.ownsRow w.heap.size 9 1 v k ((E.take k).map strV) ∧ Below w.heap.size w wr) (fun _ i _ => 67 - (intOf i).toNat)
  case atStart => exact ⟨0, by omega, rfl, World.ownsRow_nil _ _ _ _, Below.refl _ _⟩
  case round =>
    obtain ⟨k, hk, rfl, hown, hb⟩ := hrel
    by_cases hlt : k < 67
    · have htk := HTK.out k hlt
      have hse := HSE.out wr k hlt
      have hch := fun W => HCH.out W k
      generalize secretB seed leaf k = x at *
      generalize chainB k x 15 = z at *
      have HSEK := Lib.hid hse
      have HCHK := Lib.hid hch
      have HT1 := Lib.hid htk
      have HO := Lib.hid hown
      have HB := Lib.hid hb
      have HC1 : Hid (k + 1 ≤ maxLen) := Lib.hid (by unfold maxLen; omega)
      have HC2 : Hid ((k + 1) * 16 ≤ 140737488355328) := Lib.hid (by omega)
      clear htk hse hch hown hb HSE HCH HTK
      go_wp2_with fail
      refine HSEK.out.mono ?_
      rintro e w1 ⟨rfl, b1⟩
      have O1 := Lib.hid (HO.out.kept (Lib.grownBy_below (World.grownBy.refl wr none) b1) (by cases h : Value.ownBlock _ <;> simp))
      have B1 := Lib.hid (HB.out.trans (b1.mono HB.out.size))
      clear b1 HO HB
      go_wp2_with fail
      refine (HCHK.out _).mono ?_
      rintro e w2 ⟨rfl, b2⟩
      have O2 := Lib.hid (O1.out.kept (Lib.grownBy_below (World.grownBy.refl w1 none) b2) (by cases h : Value.ownBlock _ <;> simp))
      have B2 := Lib.hid (B1.out.trans (b2.mono B1.out.size))
      have HC3 : Hid (∀ o : Obj, w.heap.size ≤ (w2.alloc o).heap.size) := Lib.hid (fun o => by have := B2.out.size; simp; omega)
      clear b2 O1 B1
      go_wp2_with (at_builtin; refine wpList_append_lies _ rfl _ _ 22 rfl w.heap.size 9 i0 (.string ⟨#[]⟩) 1 16 Tryz.underlying22 hi0 hz0 hz1 hz2 rfl (by omega) _ k _ rfl (O2.out.alloc _) ⟨w2.heap.size, 0, none⟩ 1 1 [strV z] rfl rfl (World.news_of_block (cs := #[strV z]) (t := 9) (fr := (0, 0)) (heap_alloc_new w2 _)) (strV_one z) (by omega) HC1.out HC2.out (HC3.out _) (w2.heap.size + 1) (by simp) ?_)
      intro g3 cap3 w3 hown3 hg3 _ _
      have B3 := Lib.hid ((B2.out.alloc B2.out.size _).grown hg3 (HC3.out _) (fun j hj => (O2.out.lt j hj).1))
      have O3 := Lib.hid hown3
      clear hown3 hg3 O2 B2
      go_wp2
      go_roundw
      case rel => exact ⟨k + 1, by omega, by go_num, by rw [HT1.out, List.map_append, List.map_take]; exact O3.out, B3.out⟩
      case measure => simp [intOf]; omega
    · obtain rfl : k = 67 := by omega
      rw [List.take_of_length_le (by rw [HEL.out]; omega)] at hown
      obtain ⟨a2, c2, rfl, hrow⟩ := own_strs hown HEL.out
      rw [HEL.out]
      have HTGK := Lib.hid (HTG.out wr a2 c2 hrow)
      have HB := Lib.hid hb
      clear hown hrow hb
      rw [show ((67 : Nat) : Int) = 67 from rfl]
      go_wp2_with fail
      refine HTGK.out.mono ?_
      rintro e w2 ⟨rfl, b2⟩
      have B2 := Lib.hid (HB.out.trans (b2.mono HB.out.size))
      clear b2
      go_wp2
      go_ret
      exact ⟨rfl, B2.out⟩


set_option maxHeartbeats 2000000 in
set_option maxRecDepth 100000 in
theorem refsign (w : World) (seed : ByteArray) (leaf : Nat) (d : ByteArray) (hl : leaf ≤ 65535) (hs : seed.size ≤ 1000000) (hd : d.size = 32) :
    Calls Tryz.prog 34 #[.string seed, .int .i64 leaf, .string d] w fun e w' => (∃ a c, e = .returned (.slice a 67 c) ∧ StrRow w' a (signL seed leaf (digL d.data.toList))) ∧ Below w.heap.size w w' := by
  obtain ⟨i0, hi0, hz0, hz1, hz2⟩ := info_parts (show (Tryz.prog.info? 9).map (fun i => (i.zero, i.size, i.bytes)) = some (some (.string ⟨#[]⟩), 1, 16) by kernel_rfl)
  have HD := Lib.hid (refdigits d hd w)
  have hdl := digL_length d.data.toList
  have h16 := getD_lt (digL d.data.toList) 16 (by omega) (digL_lt d.data.toList (by simp; omega))
  rw [show d.data.toList.length = 32 by simp [hd]] at hdl
  generalize digL d.data.toList = dl at *
  have HSE := Lib.hid (fun W (k : Nat) hk => refsecret W seed leaf k hl hk hs)
  have HCH := Lib.hid (fun W (k : Nat) => (show Calls Tryz.prog 63 #[.int .i64 (k : Int), .string (secretB seed leaf k), .int .i64 ((dl.getD k 0 : Nat) : Int)] W fun e w' => e = .returned (.string (chainB k (secretB seed leaf k) (dl.getD k 0))) ∧ Below W.heap.size W w' from by
    have h := refchain_any W k ((dl.getD k 0 : Nat) : Int) (secretB seed leaf k) (by rw [secretB, shaB_size']; omega)
    rw [stepsN_nat _ (by have := h16 k; omega)] at h
    exact h))
  have HTK := Lib.hid (fun k hk => walkS_take seed leaf (fun k => dl.getD k 0) k hk)
  rw [show (walkL (secretsL seed leaf) fun k => dl.getD k 0) = signL seed leaf dl from rfl] at HTK
  have hel : (signL seed leaf dl).length = 67 := by rw [signL, walkL_length, secretsL_length]
  have HEL := Lib.hid hel
  have H16 := Lib.hid h16
  have HDL := Lib.hid hdl
  generalize signL seed leaf dl = E at *
  clear hel hs h16 hdl
  go_enter Tryz.func34, Tryz.ntmps34
  go_wp2_with fail
  refine HD.out.mono ?_
  rintro e w1 ⟨⟨v, rfl, hown1⟩, b1⟩
  obtain ⟨dg, dc, rfl, _, hdg⟩ := hown1.form (by omega)
  have HDC := Lib.hid (fun k (hk : k < 67) => (hown1.cellAt k (by omega)).trans (ints_get? dl k (by have := HDL.out; omega)))
  have B1 := Lib.hid b1
  clear b1 hown1 HD
  go_wp2
  go_loopw [8, 9] (fun v i wr => ∃ k : Nat, k ≤ 67 ∧ i = .int .i64 k ∧ wr.ownsRow w1.heap.size 9 1 v k ((E.take k).map strV) ∧ Below w1.heap.size w1 wr) (fun _ i _ => 67 - (intOf i).toNat)
  case atStart => exact ⟨0, by omega, rfl, World.ownsRow_nil _ _ _ _, Below.refl _ _⟩
  case round =>
    obtain ⟨k, hk, rfl, hown, hb⟩ := hrel
    by_cases hlt : k < 67
    · have htk := HTK.out k hlt
      have hd16 := H16.out k
      have k1 := HDC.out k hlt
      have q1 := (hb.cell (p := ⟨dg, k, none⟩) hdg).trans k1
      have hse := fun (Wq : World) (hWq : Below w1.heap.size w1 Wq) (hO : Wq.ownsRow w1.heap.size 9 1 u8 k ((E.take k).map strV)) => (HSE.out Wq k hlt).mono (fun e w' (h : e = .returned (.string (secretB seed leaf k)) ∧ Below Wq.heap.size Wq w') => (show e = .returned (.string (secretB seed leaf k)) ∧ Below w1.heap.size w1 w' ∧ w'.ownsRow w1.heap.size 9 1 u8 k ((E.take k).map strV) from ⟨h.1, hWq.trans (h.2.mono hWq.size), hO.kept (Lib.grownBy_below (World.grownBy.refl _ none) h.2) (by cases h : Value.ownBlock _ <;> simp)⟩))
      have hch := fun (Wq : World) (hWq : Below w1.heap.size w1 Wq) (hO : Wq.ownsRow w1.heap.size 9 1 u8 k ((E.take k).map strV)) => (HCH.out Wq k).mono (fun e w' (h : e = .returned (.string (chainB k (secretB seed leaf k) (dl.getD k 0))) ∧ Below Wq.heap.size Wq w') => (show e = .returned (.string (chainB k (secretB seed leaf k) (dl.getD k 0))) ∧ Below w1.heap.size w1 w' ∧ w'.ownsRow w1.heap.size 9 1 u8 k ((E.take k).map strV) from ⟨h.1, hWq.trans (h.2.mono hWq.size), hO.kept (Lib.grownBy_below (World.grownBy.refl _ none) h.2) (by cases h : Value.ownBlock _ <;> simp)⟩))
      generalize dl.getD k 0 = dk at *
      generalize secretB seed leaf k = x at *
      generalize chainB k x dk = z at *
      have HSEK := Lib.hid hse
      have HCHK := Lib.hid hch
      have HT1 := Lib.hid htk
      have HO := Lib.hid hown
      have HB := Lib.hid hb
      have HC1 : Hid (k + 1 ≤ maxLen) := Lib.hid (by unfold maxLen; omega)
      have HC2 : Hid ((k + 1) * 16 ≤ 140737488355328) := Lib.hid (by omega)
      have hk0 : (0 : Int) ≤ (k : Int) := by omega
      have hk1 : (k : Int) < 67 := by omega
      clear htk hse hch hown hb HSE HCH HTK
      go_wp2
      go_region_held3 (fun w' => w'.cell? ⟨dg, k, none⟩ = some (.int .i64 (dk : Int)))
        (first | exact (b8.cell (p := ⟨dg, k, none⟩) hdg).trans k1 | exact ((b7.alloc b7.size _).cell (p := ⟨dg, k, none⟩) hdg).trans k1 | exact (b7.cell (p := ⟨dg, k, none⟩) hdg).trans k1 | exact (b6.cell (p := ⟨dg, k, none⟩) hdg).trans k1 | go_keep)
        (first | (go_at_call 64; refine (HSEK.out _ (HB.out.drew) (HO.out.drew)).mono ?_; rintro e w6 ⟨rfl, b6, o6⟩) | (go_at_call 63; refine (HCHK.out _ b6 o6).mono ?_; rintro e w7 ⟨rfl, b7, o7⟩) | (refine step_append_lies _ (by rfl) _ _ _ (by rfl) w1.heap.size 9 i0 (.string ⟨#[]⟩) 1 16 Tryz.underlying22 hi0 hz0 hz1 hz2 rfl (by omega) _ k _ (by rfl) (o7.alloc _) ⟨w7.heap.size, 0, none⟩ 1 1 [strV z] (by rfl) (by rfl) (World.news_of_block (cs := #[strV z]) (t := 9) (fr := (0, 0)) (heap_alloc_new w7 _)) (strV_one z) (by omega) HC1.out HC2.out (by have := b7.size; simp; omega) (w7.heap.size + 1) (by simp) ?_; intro g8 cap8 w8 hown8 hg8 _ _; have b8 := (b7.alloc b7.size _).grown hg8 (by have := b7.size; simp; omega) (fun q hq => (o7.lt q hq).1)))
      have HO8 := Lib.hid hown8
      have HB8 := Lib.hid b8
      clear hown8 hg8 b8 o7 b7 o6 b6
      go_wp2
      go_roundw
      case rel => exact ⟨k + 1, by omega, by go_num, by rw [HT1.out, List.map_append]; exact HO8.out, HB8.out⟩
      case measure => simp [intOf]; omega
    · obtain rfl : k = 67 := by omega
      rw [List.take_of_length_le (by rw [HEL.out]; omega)] at hown
      obtain ⟨a2, c2, rfl, hrow⟩ := own_strs hown HEL.out
      rw [HEL.out]
      have HROW := Lib.hid hrow
      have B2 := Lib.hid (B1.out.trans (hb.mono B1.out.size))
      clear hown hrow hb
      rw [show ((67 : Nat) : Int) = 67 from rfl]
      go_wp2
      go_ret
      exact ⟨⟨_, _, rfl, HROW.out⟩, B2.out⟩

end Go.Proofs.YtggfmnmopfdiaaaGreatDoor
namespace Go.Pal
open Go.RowKit
/-- What is summed on one chain, and on the first ones. -/
def roadC (_dl : List Nat) (vs : List ByteArray) (k j : Nat) : List ByteArray := (List.range j).map fun q => ⟨(inputL 1 [be 1 k, chainB k (vs.getD k ByteArray.empty) q]).toArray⟩
def roadR (dl : List Nat) (vs : List ByteArray) (n : Nat) : List ByteArray := (List.range n).flatMap fun k => roadC dl vs k (15 - dl.getD k 0)
theorem roadC_succ (dl : List Nat) (vs : List ByteArray) (k j : Nat) : roadC dl vs k (j + 1) = roadC dl vs k j ++ [⟨(inputL 1 [be 1 k, chainB k (vs.getD k ByteArray.empty) j]).toArray⟩] := by simp [roadC, List.range_succ]
theorem roadC_length (dl : List Nat) (vs : List ByteArray) (k j : Nat) : (roadC dl vs k j).length = j := by simp [roadC]
theorem roadR_succ (dl : List Nat) (vs : List ByteArray) (n : Nat) : roadR dl vs (n + 1) = roadR dl vs n ++ roadC dl vs n (15 - dl.getD n 0) := by simp [roadR, List.range_succ]
theorem roadR_length (dl : List Nat) (vs : List ByteArray) : ∀ n, (roadR dl vs n).length ≤ 15 * n
  | 0 => by simp [roadR]
  | n + 1 => by
    have := roadR_length dl vs n
    rw [roadR_succ, List.length_append, roadC_length]; omega
theorem walkV_take (vs : List ByteArray) (st : Nat → Nat) (k : Nat) (hk : k < vs.length) : (walkL vs st).take (k + 1) = (walkL vs st).take k ++ [chainB k (vs.getD k ByteArray.empty) (st k)] := by
  have hl : k < (walkL vs st).length := by rw [walkL_length]; exact hk
  have g := walkL_get vs st k hk
  rw [List.getD_eq_getElem?_getD, List.getElem?_eq_getElem hl] at g
  rw [List.take_succ_eq_append_getElem hl, ← g]; rfl
theorem own_apart {w w' : World} {base : Nat} {t : TypeId} {v u : Value} {n : Nat} {l : List Value} {g cap m : Nat} {o : Obj} (hv : w.ownsRow base t 1 v n l) (hne : v.ownBlock = none ∨ v.ownBlock ≠ u.ownBlock) (hg : (w.alloc o).grownBy w' u.ownBlock) (hat : u.ownBlock = some g ∨ g = w.heap.size + 1) :
    w'.ownsRow base t 1 v n l ∧ (v.ownBlock = none ∨ v.ownBlock ≠ (Value.slice (some ⟨g, 0, none⟩) m cap).ownBlock) := by
  refine ⟨(hv.alloc o).kept hg hne, ?_⟩
  rcases hne with h | h
  · exact .inl h
  · right
    rcases hat with h2 | h2
    · rw [show (Value.slice (some ⟨g, 0, none⟩) m cap).ownBlock = some g from rfl, ← h2]; exact h
    · intro e
      have := (hv.lt g (by rw [e]; rfl)).2
      omega
end Go.Pal
namespace Go.Proofs.YtggfmnmopfdiaaaGreatDoor
open Go.RowKit Go.Pal

set_option maxHeartbeats 4000000 in
set_option maxRecDepth 100000 in
theorem refrecover (w : World) (d : ByteArray) (b off cap : Nat) (vs : List ByteArray) (hd : d.size = 32) (hv : StrRow w (some ⟨b, off, none⟩) vs) (hbl : b < w.heap.size) (hlen : vs.length = 67) (hsm : ∀ i, (vs.getD i ByteArray.empty).size ≤ 1000) :
    Calls Tryz.prog 42 #[.string d, .slice (some ⟨b, off, none⟩) 67 cap] w fun e w' => (∃ a n c, e = .returned (.tuple #[.string (recoverB (digL d.data.toList) vs), .slice a n c]) ∧ n = (roadR (digL d.data.toList) vs 67).length + 1 ∧ StrRow w' a (roadR (digL d.data.toList) vs 67 ++ [⟨(inputL 3 (walkL vs fun k => 15 - (digL d.data.toList).getD k 0)).toArray⟩])) ∧ Below w.heap.size w w' := by
  obtain ⟨i0, hi0, hz0, hz1, hz2⟩ := info_parts (show (Tryz.prog.info? 9).map (fun i => (i.zero, i.size, i.bytes)) = some (some (.string ⟨#[]⟩), 1, 16) by kernel_rfl)
  have HD := Lib.hid (refdigits d hd w)
  have hdl := digL_length d.data.toList
  have h16 := getD_lt (digL d.data.toList) 16 (by omega) (digL_lt d.data.toList (by simp; omega))
  rw [show d.data.toList.length = 32 by simp [hd]] at hdl
  generalize digL d.data.toList = dl at *
  have HTK := Lib.hid (fun k (hk : k < 67) => walkV_take vs (fun k => 15 - dl.getD k 0) k (by omega))
  have hel : (walkL vs fun k => 15 - dl.getD k 0).length = 67 := by rw [walkL_length, hlen]
  have htot : totL (walkL vs fun k => 15 - dl.getD k 0) ≤ 9000000 := by
    have := totL_le (walkL vs fun k => 15 - dl.getD k 0) 1000 (walkL_le _ _ 1000 (by omega) hsm)
    rw [hel] at this; omega
  have HTG := Lib.hid (fun W a c h => reftag_any W 3 a c (walkL vs fun k => 15 - dl.getD k 0) h htot (by omega))
  have HTI := Lib.hid (fun W a c h => refinput_any W 3 a c (walkL vs fun k => 15 - dl.getD k 0) h (by omega) (by omega))
  rw [hel] at HTG HTI
  have hp : recoverB dl vs = shaB ⟨(inputL 3 (walkL vs fun k => 15 - dl.getD k 0)).toArray⟩ := rfl
  rw [← hp] at HTG
  have HRL := Lib.hid (roadR_length dl vs)
  have HRS := Lib.hid (roadR_succ dl vs)
  have HCS := Lib.hid (roadC_succ dl vs)
  have HCL := Lib.hid (roadC_length dl vs)
  have HC0 := Lib.hid (fun k => show roadC dl vs k 0 = [] from rfl)
  have HR0 := Lib.hid (show roadR dl vs 0 = [] from rfl)
  have HCH := Lib.hid (fun k j => chainB_le (k : Nat) (vs.getD k ByteArray.empty) 1000 (by omega) (hsm k) j)
  have HV := Lib.hid hv
  have HEL := Lib.hid hel
  have H16 := Lib.hid h16
  have HDL := Lib.hid hdl
  have HLEN := Lib.hid hlen
  obtain ⟨I3, hI3⟩ : ∃ I3 : ByteArray, I3 = ⟨(inputL 3 (walkL vs fun k => 15 - dl.getD k 0)).toArray⟩ := ⟨_, rfl⟩
  rw [← hI3] at HTI ⊢
  generalize recoverB dl vs = P at *
  obtain ⟨E, hE⟩ : ∃ E, E = walkL vs fun k => 15 - dl.getD k 0 := ⟨_, rfl⟩
  rw [← hE] at HTK HTG HTI HEL
  obtain ⟨RR, hRR⟩ : ∃ RR, RR = roadR dl vs := ⟨_, rfl⟩
  obtain ⟨RC, hRC⟩ : ∃ RC, RC = roadC dl vs := ⟨_, rfl⟩
  rw [← hRR] at HRL HRS HR0 ⊢
  rw [← hRC] at HRS HCS HCL HC0
  clear hel htot hp hI3 hE hRR hRC hsm hdl h16 hv hlen
  go_enter Tryz.func42, Tryz.ntmps42
  go_wp2_with fail
  refine HD.out.mono ?_
  rintro e w1 ⟨⟨v, rfl, hown1⟩, b1⟩
  obtain ⟨dg, dc, rfl, _, hdg⟩ := hown1.form (by omega)
  have HDC := Lib.hid (fun k (hk : k < 67) => (hown1.cellAt k (by omega)).trans (ints_get? dl k (by have := HDL.out; omega)))
  have B1 := Lib.hid b1
  have HV1 := Lib.hid (HV.out.below b1)
  have hbl1 : b < w1.heap.size := Nat.lt_of_lt_of_le hbl b1.size
  clear b1 hown1 HD HV
  go_wp2
  go_loopw [7, 8, 9] (fun v7 v8 vk wr => ∃ k n : Nat, k ≤ 67 ∧ vk = .int .i64 k ∧ n = (RR k).length ∧ wr.ownsRow w1.heap.size 9 1 v7 k ((E.take k).map strV) ∧ wr.ownsRow w1.heap.size 9 1 v8 n ((RR k).map strV) ∧ (v7.ownBlock = none ∨ v7.ownBlock ≠ v8.ownBlock) ∧ Below w1.heap.size w1 wr) (fun _ _ vk _ => 67 - (intOf vk).toNat)
  case atStart => exact ⟨0, 0, by omega, rfl, by rw [HR0.out]; rfl, World.ownsRow_nil _ _ _ _, by rw [HR0.out]; exact World.ownsRow_nil _ _ _ _, .inl rfl, Below.refl _ _⟩
  case round =>
    obtain ⟨k, n, hk, rfl, hn, hown7, hown8, hne, hb⟩ := hrel
    by_cases hlt : k < 67
    · have k1 := (hb.cell (p := ⟨dg, k, none⟩) hdg).trans (HDC.out k hlt)
      have k2 := (hb.cell (p := ⟨b, off + k, none⟩) hbl1).trans (strRow_cell HV1.out k (by have := HLEN.out; omega))
      have hd16 := H16.out k
      have htk := HTK.out k hlt
      have hrs := HRS.out k
      have hrl := HRL.out k
      have hc0 := HC0.out k
      have hcs := fun j => HCS.out k j
      have hcl := fun j => HCL.out k j
      have hch := fun j => HCH.out k j
      have hb1 := numOk_yes (k := 1) (n := (k : Int)) (by omega) (by simp; omega)
      have hB1 := numB_yes hb1
      have hnum := number1_any (k : Int)
      rw [hB1, hb1, Int.toNat_natCast] at hnum
      have hbz := be_size 1 k
      have hstep : ∀ j, chainB (k : Int) (vs.getD k ByteArray.empty) (j + 1) = stepB (k : Int) (chainB (k : Int) (vs.getD k ByteArray.empty) j) := fun j => rfl
      have h0 : chainB (k : Int) (vs.getD k ByteArray.empty) 0 = vs.getD k ByteArray.empty := rfl
      generalize vs.getD k ByteArray.empty = V at *
      generalize dl.getD k 0 = dk at *
      generalize be 1 k = KB at *
      obtain ⟨C, hC⟩ : ∃ C, C = chainB (k : Int) V := ⟨_, rfl⟩
      rw [← hC] at hcs hch hstep h0 htk
      generalize RR k = Rk at *
      generalize hRk2 : RR (k + 1) = Rk2 at *
      generalize RC k = RCk at *
      have HHTK := Lib.hid htk
      have HHRS := Lib.hid hrs
      have HHCS := Lib.hid hcs
      have HHCL := Lib.hid hcl
      have HHCH := Lib.hid hch
      have HHST := Lib.hid hstep
      have HH0 := Lib.hid h0
      have HHC0 := Lib.hid hc0
      have HNUM := Lib.hid hnum
      have HRK2 := Lib.hid hRk2
      have HO7 := Lib.hid hown7
      have HO8 := Lib.hid hown8
      have HNE := Lib.hid hne
      have HB := Lib.hid hb
      have HBZ := Lib.hid hbz
      have HNN := Lib.hid hn
      have hnb : n ≤ 15 * k := by omega
      clear htk hrs hrl hc0 hcs hcl hch hb1 hB1 hnum hbz hstep h0 hC hRk2 hown7 hown8 hne hb hn
      go_wp2_with fail
      refine (HNUM.out _).mono ?_
      rintro e w2 ⟨rfl, b2⟩
      have B2 := Lib.hid (HB.out.trans (b2.mono HB.out.size))
      have O7 := Lib.hid (HO7.out.kept (Lib.grownBy_below (World.grownBy.refl wr none) b2) (by cases h : Value.ownBlock _ <;> simp))
      have O8 := Lib.hid (HO8.out.kept (Lib.grownBy_below (World.grownBy.refl wr none) b2) (by cases h : Value.ownBlock _ <;> simp))
      have k1' := (b2.cell (p := ⟨dg, k, none⟩) (Nat.lt_of_lt_of_le hdg HB.out.size)).trans k1
      clear b2 HO7 HO8 HB k1 k2
      go_wp2
      clear k1'
      go_loopw [8, 10, 13] (fun v8 v10 vi wr => ∃ j m : Nat, dk + j ≤ 15 ∧ vi = .int .i64 ((dk + j : Nat) : Int) ∧ v10 = .string (C j) ∧ m = n + j ∧ wr.ownsRow w1.heap.size 9 1 u7 k ((E.take k).map strV) ∧ wr.ownsRow w1.heap.size 9 1 v8 m ((Rk ++ RCk j).map strV) ∧ (u7.ownBlock = none ∨ u7.ownBlock ≠ v8.ownBlock) ∧ Below w1.heap.size w1 wr) (fun _ _ vi _ => 15 - (intOf vi).toNat)
      case atStart => exact ⟨0, n, by omega, rfl, by rw [HH0.out], rfl, O7.out, by rw [HHC0.out, List.append_nil]; exact O8.out, HNE.out, B2.out⟩
      case round =>
        clear O7 O8 B2 HNE
        obtain ⟨j, m, hj, rfl, rfl, hm, o7, o8, hne, hb⟩ := hrel
        by_cases hjl : dk + j < 15
        · have hcs := HHCS.out j
          have hz := HHCH.out j
          have hst := HHST.out j
          have hri := fun W a c h => refinput_any W 1 a c [KB, C j] h (by have := HBZ.out; simp [totL]; omega) (by simp)
          have hrst := fun W => refstep_any W (k : Int) (C j) (by omega)
          rw [← hst] at hrst
          have hq : Rk ++ RCk (j + 1) = (Rk ++ RCk j) ++ [⟨(inputL 1 [KB, C j]).toArray⟩] := by rw [hcs, List.append_assoc]
          generalize C j = X at *
          generalize hX2 : C (j + 1) = X2 at *
          generalize (⟨(inputL 1 [KB, X]).toArray⟩ : ByteArray) = J at *
          generalize Rk ++ RCk j = Q at *
          have HX2 := Lib.hid hX2
          have HCSJ := Lib.hid hq
          have HRI := Lib.hid hri
          have HRST := Lib.hid hrst
          have O7 := Lib.hid o7
          have O8 := Lib.hid o8
          have HNE := Lib.hid hne
          have HB := Lib.hid hb
          have HMM := Lib.hid hm
          have HC1 : Hid (m + 1 ≤ maxLen) := Lib.hid (by unfold maxLen; omega)
          have HC2 : Hid ((m + 1) * 16 ≤ 140737488355328) := Lib.hid (by omega)
          clear hcs hst hri hrst hX2 o7 o8 hne hb hm hq
          go_wp2_with fail
          have c1 := HB.out.alloc HB.out.size (.cells #[.string KB, .string X] 9)
          refine (HRI.out _ _ _ (strs2t wr 9 KB X)).mono ?_
          rintro e w3 ⟨rfl, b3⟩
          have B3 := Lib.hid (c1.trans (b3.mono c1.size))
          have P7 := Lib.hid ((O7.out.alloc _).kept (Lib.grownBy_below (World.grownBy.refl _ none) b3) (by cases h : Value.ownBlock _ <;> simp))
          have P8 := Lib.hid ((O8.out.alloc _).kept (Lib.grownBy_below (World.grownBy.refl _ none) b3) (by cases h : Value.ownBlock _ <;> simp))
          have HC3 : Hid (∀ o : Obj, w1.heap.size ≤ (w3.alloc o).heap.size) := Lib.hid (fun o => by have := B3.out.size; simp; omega)
          clear c1 b3 O7 O8 HB HRI
          go_wp2_with (at_builtin; refine wpList_append_lies _ rfl _ _ 22 rfl w1.heap.size 9 i0 (.string ⟨#[]⟩) 1 16 Tryz.underlying22 hi0 hz0 hz1 hz2 rfl (by omega) _ m _ rfl (P8.out.alloc _) ⟨w3.heap.size, 0, none⟩ 1 1 [strV J] rfl rfl (World.news_of_block (cs := #[strV J]) (t := 9) (fr := (0, 0)) (heap_alloc_new w3 _)) (strV_one J) (by omega) HC1.out HC2.out (HC3.out _) (w3.heap.size + 1) (by simp) ?_)
          intro g4 cap4 w4 hown4 hg4 hat4 _
          have hap := own_apart (m := m + 1) (cap := cap4) P7.out HNE.out hg4 hat4
          have B4 := Lib.hid ((B3.out.alloc B3.out.size _).grown hg4 (HC3.out _) (fun q hq => (P8.out.lt q hq).1))
          have Q7 := Lib.hid hap.1
          have QN := Lib.hid hap.2
          have Q8 := Lib.hid hown4
          clear hap hown4 hg4 hat4 P7 P8 B3 HC1 HC2 HC3 HNE
          go_wp2_with fail
          refine (HRST.out _).mono ?_
          rintro e w5 ⟨rfl, b5⟩
          have B5 := Lib.hid (B4.out.trans (b5.mono B4.out.size))
          have R7 := Lib.hid (Q7.out.kept (Lib.grownBy_below (World.grownBy.refl _ none) b5) (by cases h : Value.ownBlock _ <;> simp))
          have R8 := Lib.hid (Q8.out.kept (Lib.grownBy_below (World.grownBy.refl _ none) b5) (by simp [Value.ownBlock]))
          clear b5 Q7 Q8 B4
          go_wp2
          go_roundw
          case rel => exact ⟨j + 1, m + 1, by omega, by go_num, by rw [HX2.out], by have := HMM.out; omega, R7.out, by rw [HCSJ.out, List.map_append]; exact R8.out, QN.out, B5.out⟩
          case measure => simp [intOf]; omega
        · obtain rfl : j = 15 - dk := by omega
          have hlj := HHCL.out (15 - dk)
          have htk := HHTK.out
          have hrs := HHRS.out
          generalize C (15 - dk) = X at *
          rw [← hrs] at o8
          have hml : m = Rk2.length := by rw [hrs, List.length_append, hlj, ← HNN.out]; exact hm
          have hne2 : u8.ownBlock = none ∨ u8.ownBlock ≠ u7.ownBlock := by
            rcases hne with h | h
            · rw [h]; cases h2 : u8.ownBlock
              · exact .inl rfl
              · exact .inr (by simp)
            · exact .inr (Ne.symm h)
          have O7 := Lib.hid o7
          have O8 := Lib.hid o8
          have HNE := Lib.hid hne2
          have HB := Lib.hid hb
          have HML := Lib.hid hml
          have HTKK := Lib.hid htk
          have hdk : dk ≤ 15 := by omega
          have hvi : dk + (15 - dk) = 15 := by omega
          have HC1 : Hid (k + 1 ≤ maxLen) := Lib.hid (by unfold maxLen; omega)
          have HC2 : Hid ((k + 1) * 16 ≤ 140737488355328) := Lib.hid (by omega)
          have HC3 : Hid (∀ o : Obj, w1.heap.size ≤ (wr.alloc o).heap.size) := Lib.hid (fun o => by have := HB.out.size; simp; omega)
          rw [hvi]
          clear hlj htk hrs o7 o8 hne hne2 hb hml hvi hm hj hjl
          rw [show ((15 : Nat) : Int) = 15 from rfl]
          go_wp2_with (at_builtin; refine wpList_append_lies _ rfl _ _ 22 rfl w1.heap.size 9 i0 (.string ⟨#[]⟩) 1 16 Tryz.underlying22 hi0 hz0 hz1 hz2 rfl (by omega) _ k _ rfl (O7.out.alloc _) ⟨wr.heap.size, 0, none⟩ 1 1 [strV X] rfl rfl (World.news_of_block (cs := #[strV X]) (t := 9) (fr := (0, 0)) (heap_alloc_new wr _)) (strV_one X) (by omega) HC1.out HC2.out (HC3.out _) (wr.heap.size + 1) (by simp) ?_)
          intro g4 cap4 w4 hown4 hg4 hat4 _
          have hap := own_apart (m := k + 1) (cap := cap4) O8.out HNE.out hg4 hat4
          have B4 := Lib.hid ((HB.out.alloc HB.out.size _).grown hg4 (HC3.out _) (fun q hq => (O7.out.lt q hq).1))
          have Q8 := Lib.hid hap.1
          have QN : Hid ((Value.slice (some ⟨g4, 0, none⟩) (k + 1) cap4).ownBlock = none ∨ (Value.slice (some ⟨g4, 0, none⟩) (k + 1) cap4).ownBlock ≠ u8.ownBlock) := Lib.hid (by
            rcases hap.2 with h | h
            · exact .inr (by rw [h]; simp [Value.ownBlock])
            · exact .inr (Ne.symm h))
          have Q7 := Lib.hid hown4
          clear hap hown4 hg4 hat4 O7 O8 HB HC1 HC2 HC3 HNE
          go_wp2
          go_roundw
          case rel => exact ⟨k + 1, m, by omega, by go_num, by rw [HRK2.out]; exact HML.out, by rw [HTKK.out, List.map_append, List.map_take]; exact Q7.out, by rw [HRK2.out]; exact Q8.out, QN.out, B4.out⟩
          case measure => simp [intOf]; omega
    · obtain rfl : k = 67 := by omega
      rw [List.take_of_length_le (by rw [HEL.out]; omega)] at hown7
      obtain ⟨a2, c2, rfl, hrow⟩ := own_strs hown7 HEL.out
      rw [HEL.out]
      have hrl := HRL.out 67
      have HR := Lib.hid hrow
      have O8 := Lib.hid hown8
      have HB := Lib.hid hb
      have HNN := Lib.hid hn
      have HC1 : Hid (n + 1 ≤ maxLen) := Lib.hid (by unfold maxLen; omega)
      have HC2 : Hid ((n + 1) * 16 ≤ 140737488355328) := Lib.hid (by omega)
      clear hown7 hown8 hrow hb hne hrl hn hlt hk
      rw [show ((67 : Nat) : Int) = 67 from rfl]
      go_wp2_with fail
      refine (HTG.out _ _ _ HR.out).mono ?_
      rintro e w2 ⟨rfl, b2⟩
      have B2 := Lib.hid (HB.out.trans (b2.mono HB.out.size))
      have R2 := Lib.hid (HR.out.below b2)
      have P8 := Lib.hid (O8.out.kept (Lib.grownBy_below (World.grownBy.refl _ none) b2) (by cases h : Value.ownBlock _ <;> simp))
      clear b2 HB HR O8 HTG
      go_wp2_with fail
      refine (HTI.out _ _ _ R2.out).mono ?_
      rintro e w3 ⟨rfl, b3⟩
      have B3 := Lib.hid (B2.out.trans (b3.mono B2.out.size))
      have Q8 := Lib.hid (P8.out.kept (Lib.grownBy_below (World.grownBy.refl _ none) b3) (by cases h : Value.ownBlock _ <;> simp))
      have HC3 : Hid (∀ o : Obj, w1.heap.size ≤ (w3.alloc o).heap.size) := Lib.hid (fun o => by have := B3.out.size; simp; omega)
      clear b3 B2 R2 P8 HTI
      go_wp2_with (at_builtin; refine wpList_append_lies _ rfl _ _ 22 rfl w1.heap.size 9 i0 (.string ⟨#[]⟩) 1 16 Tryz.underlying22 hi0 hz0 hz1 hz2 rfl (by omega) _ n _ rfl (Q8.out.alloc _) ⟨w3.heap.size, 0, none⟩ 1 1 [strV I3] rfl rfl (World.news_of_block (cs := #[strV I3]) (t := 9) (fr := (0, 0)) (heap_alloc_new w3 _)) (strV_one I3) (by omega) HC1.out HC2.out (HC3.out _) (w3.heap.size + 1) (by simp) ?_)
      intro g4 cap4 w4 hown4 hg4 _ _
      have B4 := Lib.hid (B1.out.trans (((B3.out.alloc B3.out.size _).grown hg4 (HC3.out _) (fun q hq => (Q8.out.lt q hq).1)).mono B1.out.size))
      have hroad : StrRow w4 (some ⟨g4, 0, none⟩) (RR 67 ++ [I3]) := by
        have h5 : w4.ownsRow w1.heap.size 9 1 (.slice (some ⟨g4, 0, none⟩) (n + 1) cap4) (n + 1) ((RR 67 ++ [I3]).map strV) := by rw [List.map_append]; exact hown4
        obtain ⟨a5, c5, he, hr⟩ := own_strs h5 (by rw [List.length_append, ← HNN.out]; rfl)
        have : a5 = some ⟨g4, 0, none⟩ := by simp at he; exact he.1.symm
        rw [← this]; exact hr
      have HRD := Lib.hid hroad
      clear hown4 hg4 hroad
      go_wp2
      go_ret2
      exact ⟨⟨_, _, _, rfl, by rw [HNN.out], HRD.out⟩, B4.out⟩

end Go.Proofs.YtggfmnmopfdiaaaGreatDoor
namespace Go.Proofs.YtggfmnmopfdiaaaGreatDoor
open Go.RowKit Go.Pal

def totM (ps : List ByteArray) : Nat := (ps.map fun p => min p.size 2000 + 4).sum
theorem totM_take (ps : List ByteArray) (k : Nat) (h : k < ps.length) : totM (ps.take (k + 1)) = totM (ps.take k) + (min (ps.getD k ByteArray.empty).size 2000 + 4) := by
  have e : ps.getD k ByteArray.empty = ps[k] := by simp [h]
  rw [e, List.take_succ_eq_append_getElem h, totM, List.map_append, List.sum_append]
  simp [totM]
theorem totM_small : ∀ (ps : List ByteArray), totM ps ≤ 2000 → totL ps = totM ps ∧ ps.length ≤ totM ps
  | [], _ => ⟨rfl, Nat.zero_le _⟩
  | p :: ps, h => by
    have e1 : totM (p :: ps) = (min p.size 2000 + 4) + totM ps := by simp [totM]
    have e2 : totL (p :: ps) = (4 + p.size) + totL ps := by simp [totL]
    obtain ⟨h1, h2⟩ := totM_small ps (by omega)
    rw [e1] at h ⊢
    rw [e2, h1, List.length_cons]
    constructor <;> omega


end Go.Proofs.YtggfmnmopfdiaaaGreatDoor
namespace Go.Proofs.YtggfmnmopfdiaaaGreatDoor.ShaApart
open Go.ChangeShapes Go.WideShapes Go.ChangeAt Go.RowKit Go.Pal
open Go.ChangeMaps (open_string shut_string)
set_option linter.unusedVariables false

/-! Plain: an input tells its tag and its texts. -/
theorem beL_inj (k n m : Nat) (hn : n < 256 ^ k) (hm : m < 256 ^ k) (h : beL k n = beL k m) : n = m := by
  rw [← valL_beL k n hn, ← valL_beL k m hm, h]

theorem flat_inj : ∀ (ps qs : List ByteArray), (∀ p ∈ ps, p.size < 4294967296) → (∀ q ∈ qs, q.size < 4294967296) → ps.flatMap partL4 = qs.flatMap partL4 → ps = qs
  | [], [], _, _, _ => rfl
  | [], q :: qs, _, _, h => by
    rw [List.flatMap_cons] at h
    have := congrArg List.length h
    rw [List.length_append, partL4_length, List.flatMap_nil, List.length_nil] at this
    omega
  | p :: ps, [], _, _, h => by
    rw [List.flatMap_cons] at h
    have := congrArg List.length h
    rw [List.length_append, partL4_length, List.flatMap_nil, List.length_nil] at this
    omega
  | p :: ps, q :: qs, hp, hq, h => by
    rw [List.flatMap_cons, List.flatMap_cons, partL4, partL4, List.append_assoc, List.append_assoc] at h
    have h1 := List.append_inj h (by rw [beL_length, beL_length])
    have hs : p.size = q.size := beL_inj 4 _ _ (by have := hp p (by simp); simpa using this) (by have := hq q (by simp); simpa using this) h1.1
    have h2 := List.append_inj h1.2 (by simpa using hs)
    have e : p = q := by
      rw [ByteArray.ext_iff]
      exact Array.ext' h2.1
    rw [e, flat_inj ps qs (fun x hx => hp x (by simp [hx])) (fun x hx => hq x (by simp [hx])) h2.2]

theorem small_of_tot (ps : List ByteArray) (h : totL ps ≤ 2000) : ∀ p ∈ ps, p.size < 4294967296 := by
  intro p hp
  obtain ⟨i, hi, rfl⟩ := List.getElem_of_mem hp
  have := size_le_tot ps i hi
  have e : ps.getD i ByteArray.empty = ps[i] := by simp [hi]
  rw [e] at this
  omega

theorem input_inj (a b : Nat) (ha : a < 256) (hb : b < 256) (ps qs : List ByteArray) (hp : totL ps ≤ 2000) (hq : totL qs ≤ 2000) : (inputL a ps = inputL b qs) ↔ (a = b ∧ ps = qs) := by
  constructor
  · intro h
    unfold inputL at h
    have h1 := List.cons.inj h
    refine ⟨?_, flat_inj ps qs (small_of_tot ps hp) (small_of_tot qs hq) h1.2⟩
    have h2 := congrArg UInt8.toNat h1.1
    have e1 : ((a : Int) % 256).toNat = a := by omega
    have e2 : ((b : Int) % 256).toNat = b := by omega
    rw [e1, e2] at h2
    simp at h2
    omega
  · rintro ⟨rfl, rfl⟩; rfl

theorem beqL (a b : ByteArray) : (a.toList == b.toList) = true ↔ a = b := by
  rw [ByteArray.toList_eq, ByteArray.toList_eq, beq_iff_eq]
  constructor
  · intro h
    rw [ByteArray.ext_iff]
    exact Array.ext' h
  · rintro rfl; rfl
/-- What the law's loop tells of the first k texts. -/
def sameTo (a b : Nat) (ps qs : List ByteArray) (k : Nat) : Bool := decide (a = b ∧ ps.length = qs.length ∧ ps.take k = qs.take k)
theorem sameTo_step (a b : Nat) (ps qs : List ByteArray) (k : Nat) (h : k < ps.length) (hs : sameTo a b ps qs k = true) :
    sameTo a b ps qs (k + 1) = ((ps.getD k ByteArray.empty).toList == (qs.getD k ByteArray.empty).toList) := by
  simp only [sameTo, decide_eq_true_eq] at hs
  obtain ⟨h1, h2, h3⟩ := hs
  have hq : k < qs.length := by omega
  have e1 : ps.getD k ByteArray.empty = ps[k] := by simp [h]
  have e2 : qs.getD k ByteArray.empty = qs[k] := by simp [hq]
  rw [e1, e2, Bool.eq_iff_iff]
  rw [beqL]
  simp only [sameTo, decide_eq_true_eq]
  rw [List.take_succ_eq_append_getElem h, List.take_succ_eq_append_getElem hq, h3]
  constructor
  · rintro ⟨_, _, h4⟩
    have := List.append_cancel_left h4
    exact List.cons.inj this |>.1
  · intro h4; exact ⟨h1, h2, by rw [h4]⟩
theorem sameTo_end (a b : Nat) (ps qs : List ByteArray) (k : Nat) (h : k = ps.length ∨ sameTo a b ps qs k = false) : sameTo a b ps qs k = decide (a = b ∧ ps = qs) := by
  rcases h with rfl | h
  · rw [Bool.eq_iff_iff]
    simp only [sameTo, decide_eq_true_eq]
    constructor
    · rintro ⟨h1, h2, h3⟩
      rw [List.take_length, h2, List.take_length] at h3
      exact ⟨h1, h3⟩
    · rintro ⟨h1, rfl⟩; exact ⟨h1, rfl, rfl⟩
  · rw [h]
    symm
    rw [decide_eq_false_iff_not]
    rintro ⟨rfl, rfl⟩
    simp [sameTo] at h
theorem eq_inputs (a b : Nat) (ha : a < 256) (hb : b < 256) (ps qs : List ByteArray) (hp : totL ps ≤ 2000) (hq : totL qs ≤ 2000) :
    ((⟨(inputL a ps).toArray⟩ : ByteArray).toList == (⟨(inputL b qs).toArray⟩ : ByteArray).toList) = decide (a = b ∧ ps = qs) := by
  rw [Bool.eq_iff_iff]
  rw [beqL, decide_eq_true_eq, ← input_inj a b ha hb ps qs hp hq]
  constructor
  · intro h
    have := congrArg (fun x : ByteArray => x.data.toList) h
    simpa using this
  · intro h; rw [h]

end Go.Proofs.YtggfmnmopfdiaaaGreatDoor.ShaApart
namespace Go.Pal

theorem beqT (a b : ByteArray) : (a.toList == b.toList) = true ↔ a = b := by
  rw [ByteArray.toList_eq, ByteArray.toList_eq, beq_iff_eq]
  constructor
  · intro h
    rw [ByteArray.ext_iff]
    exact Array.ext' h
  · rintro rfl; rfl
theorem beqF {a b : ByteArray} (h : a ≠ b) : (a.toList == b.toList) = false := by
  cases e : a.toList == b.toList
  · rfl
  · exact absurd ((beqT a b).1 e) h

theorem lackN_mono : ∀ (l m : List Nat), l.length = m.length → (∀ n ∈ l, n < 16) → (∀ i, m.getD i 0 ≤ l.getD i 0) → lackN l ≤ lackN m ∧ (lackN l = lackN m → l = m)
  | [], [], _, _, _ => ⟨Nat.le_refl _, fun _ => rfl⟩
  | [], _ :: _, h, _, _ => by simp at h
  | _ :: _, [], h, _, _ => by simp at h
  | a :: l, b :: m, h, ha, hi => by
    have h1 := lackN_mono l m (by simpa using h) (fun n hn => ha n (List.mem_cons_of_mem _ hn)) (fun i => by simpa using hi (i + 1))
    have h0 : b ≤ a := by simpa using hi 0
    have h2 := ha a (List.mem_cons_self ..)
    have e1 : lackN (a :: l) = (15 - a) + lackN l := by simp [lackN]
    have e2 : lackN (b :: m) = (15 - b) + lackN m := by simp [lackN]
    rw [e1, e2]
    refine ⟨by omega, fun he => ?_⟩
    rw [h1.2 (by omega), show a = b by omega]

theorem nibs_inj : ∀ (a b : List UInt8), nibs a = nibs b → a = b
  | [], [], _ => rfl
  | [], b :: m, h => by simp [nibs] at h
  | a :: l, [], h => by simp [nibs] at h
  | a :: l, b :: m, h => by
    have e1 : nibs (a :: l) = a.toNat / 16 :: a.toNat % 16 :: nibs l := by simp [nibs]
    have e2 : nibs (b :: m) = b.toNat / 16 :: b.toNat % 16 :: nibs m := by simp [nibs]
    rw [e1, e2] at h
    obtain ⟨h1, h2⟩ := List.cons.inj h
    obtain ⟨h3, h4⟩ := List.cons.inj h2
    rw [nibs_inj l m h4, show a = b from UInt8.toNat.inj (by omega)]

theorem getD_left (l m : List Nat) (i : Nat) (h : i < l.length) : (l ++ m).getD i 0 = l.getD i 0 := by
  rw [List.getD_eq_getElem?_getD, List.getD_eq_getElem?_getD, List.getElem?_append_left h]
theorem getD_right (l m : List Nat) (i : Nat) : (l ++ m).getD (l.length + i) 0 = m.getD i 0 := by
  rw [List.getD_eq_getElem?_getD, List.getD_eq_getElem?_getD, List.getElem?_append_right (by omega)]; congr 2; omega

theorem dig_low (a b : List UInt8) (ha : a.length = 32) (hb : b.length = 32) (h : ∀ i, i < 67 → (digL b).getD i 0 ≤ (digL a).getD i 0) : a = b := by
  have la : (nibs a).length = 64 := by rw [nibs_length]; omega
  have lb : (nibs b).length = 64 := by rw [nibs_length]; omega
  have hn : ∀ i, (nibs b).getD i 0 ≤ (nibs a).getD i 0 := by
    intro i
    by_cases hi : i < 64
    · have := h i (by omega)
      unfold digL at this
      rwa [getD_left _ _ _ (by omega), getD_left _ _ _ (by omega)] at this
    · rw [List.getD_eq_getElem?_getD, List.getElem?_eq_none (by omega)]; exact Nat.zero_le _
  have hc : ∀ i, i < 3 → [lackL b / 256, lackL b / 16 % 16, lackL b % 16].getD i 0 ≤ [lackL a / 256, lackL a / 16 % 16, lackL a % 16].getD i 0 := by
    intro i hi
    have := h (64 + i) (by omega)
    unfold digL at this
    have r1 := getD_right (nibs b) [lackL b / 256, lackL b / 16 % 16, lackL b % 16] i
    have r2 := getD_right (nibs a) [lackL a / 256, lackL a / 16 % 16, lackL a % 16] i
    rw [lb] at r1
    rw [la] at r2
    rw [← r1, ← r2]
    exact this
  have c0 : lackL b / 256 ≤ lackL a / 256 := hc 0 (by omega)
  have c1 : lackL b / 16 % 16 ≤ lackL a / 16 % 16 := hc 1 (by omega)
  have c2 : lackL b % 16 ≤ lackL a % 16 := hc 2 (by omega)
  have hm := lackN_mono (nibs a) (nibs b) (by omega) (nibs_lt a) hn
  rw [lackN_nibs, lackN_nibs] at hm
  exact nibs_inj a b (hm.2 (by omega))

/-- Is one of the first k lower? -/
def lessTo (l m : List Nat) (k : Nat) : Bool := (List.range k).any fun i => decide (l.getD i 0 < m.getD i 0)
theorem lessTo_succ (l m : List Nat) (k : Nat) : lessTo l m (k + 1) = (lessTo l m k || decide (l.getD k 0 < m.getD k 0)) := by
  simp [lessTo, List.range_succ]
theorem dig_less (a b : List UInt8) (ha : a.length = 32) (hb : b.length = 32) (hne : a ≠ b) : lessTo (digL a) (digL b) 67 = true := by
  by_cases h : ∃ i, i < 67 ∧ (digL a).getD i 0 < (digL b).getD i 0
  · obtain ⟨i, h1, h2⟩ := h
    simp only [lessTo, List.any_eq_true, List.mem_range, decide_eq_true_eq]
    exact ⟨i, h1, h2⟩
  · exact absurd (dig_low a b ha hb (fun i hi => by
      by_cases h3 : (digL b).getD i 0 ≤ (digL a).getD i 0
      · exact h3
      · exact absurd ⟨i, hi, by omega⟩ h)) hne
end Go.Pal
namespace Go.Proofs.YtggfmnmopfdiaaaGreatDoor
open Go.RowKit Go.Pal

theorem input4_inj (x y u v : ByteArray) (hx : x.size ≤ 1000000) (hy : y.size ≤ 1000000) (hu : u.size ≤ 1000000) (hv : v.size ≤ 1000000)
    (h : (⟨(inputL 4 [x, y]).toArray⟩ : ByteArray) = ⟨(inputL 4 [u, v]).toArray⟩) : x = u ∧ y = v := by
  have h1 : inputL 4 [x, y] = inputL 4 [u, v] := by
    have := congrArg (fun b : ByteArray => b.data.toList) h
    simpa using this
  unfold inputL at h1
  have h2 := ShaApart.flat_inj [x, y] [u, v] (by
    intro p hp
    simp only [List.mem_cons, List.not_mem_nil, or_false] at hp
    rcases hp with rfl | rfl <;> omega) (by
    intro p hp
    simp only [List.mem_cons, List.not_mem_nil, or_false] at hp
    rcases hp with rfl | rfl <;> omega) (List.cons.inj h1).2
  have h3 := List.cons.inj h2
  exact ⟨h3.1, (List.cons.inj h3.2).1⟩

theorem step_unlike (a b : ByteArray) (i : Nat) (path : List ByteArray) (ha : a.size ≤ 1000000) (hb : b.size ≤ 1000000) (hp : SmallL path) (k : Nat) (h : stepIn a i path k = stepIn b i path k) : foldAt a i path k = foldAt b i path k := by
  have s1 := foldAt_size a i path ha k
  have s2 := foldAt_size b i path hb k
  have s3 := hp k
  unfold stepIn at h
  by_cases hq : i / 2 ^ k % 2 = 1
  · rw [if_pos hq, if_pos hq] at h
    exact (input4_inj _ _ _ _ s3 s1 s3 s2 h).2
  · rw [if_neg hq, if_neg hq] at h
    exact (input4_inj _ _ _ _ s1 s3 s2 s3 h).1

theorem fold_clash (a b : ByteArray) (i : Nat) (path : List ByteArray) (ha : a.size ≤ 1000000) (hb : b.size ≤ 1000000) (hp : SmallL path) (hne : a ≠ b) : ∀ n, foldAt a i path n = foldAt b i path n → ∃ k, k < n ∧ stepIn a i path k ≠ stepIn b i path k ∧ shaB (stepIn a i path k) = shaB (stepIn b i path k)
  | 0, h => absurd h hne
  | n + 1, h => by
    by_cases he : foldAt a i path n = foldAt b i path n
    · obtain ⟨k, h1, h2⟩ := fold_clash a b i path ha hb hp hne n he
      exact ⟨k, by omega, h2⟩
    · refine ⟨n, by omega, fun hs => he (step_unlike a b i path ha hb hp n hs), ?_⟩
      rw [← foldAt_in, ← foldAt_in]; exact h

theorem stepIn_size (a : ByteArray) (i : Nat) (path : List ByteArray) (ha : a.size ≤ 1000000) (hp : SmallL path) (k : Nat) : (stepIn a i path k).size ≤ 9000000 := by
  have s1 := foldAt_size a i path ha k
  have s3 := hp k
  unfold stepIn
  generalize path.getD k ByteArray.empty = p at *
  split
  · show (inputL 4 _).toArray.size ≤ _
    rw [List.size_toArray, inputL_length]; simp [totL]; omega
  · show (inputL 4 _).toArray.size ≤ _
    rw [List.size_toArray, inputL_length]; simp [totL]; omega

end Go.Proofs.YtggfmnmopfdiaaaGreatDoor
namespace Go.Pal
open Go.RowKit
theorem set_row (l : List ByteArray) (k : Nat) (x : ByteArray) : ∀ j q, q ≠ k / 2 ^ j → (rowN j (l.set k x)).getD q ByteArray.empty = (rowN j l).getD q ByteArray.empty
  | 0, q, h => by
    rw [Nat.pow_zero, Nat.div_one] at h
    rw [rowN, rowN, List.getD_eq_getElem?_getD, List.getD_eq_getElem?_getD, List.getElem?_set_ne (Ne.symm h)]
  | j + 1, q, h => by
    rw [half_step] at h
    have hl : (rowN j (l.set k x)).length = (rowN j l).length := by rw [rowN_length, rowN_length, List.length_set]
    rw [rowN, rowN]
    by_cases hq : q < (rowN j l).length / 2
    · rw [rowUp_get _ _ (by rw [hl]; exact hq), rowUp_get _ _ hq, set_row l k x j (2 * q) (by omega), set_row l k x j (2 * q + 1) (by omega)]
    · rw [List.getD_eq_getElem?_getD, List.getD_eq_getElem?_getD, List.getElem?_eq_none (by rw [rowUp_length, hl]; omega), List.getElem?_eq_none (by rw [rowUp_length]; omega)]
theorem beside_ne (q : Nat) : beside q ≠ q := by unfold beside; split <;> omega
theorem set_path (l : List ByteArray) (k H : Nat) (x : ByteArray) : pathTo (l.set k x) k H = pathTo l k H := by
  unfold pathTo
  exact List.map_congr_left fun j _ => set_row l k x j _ (beside_ne _)
theorem set_root (l : List ByteArray) (k H : Nat) (x : ByteArray) (hl : l.length = 2 ^ H) (hk : k < 2 ^ H) : (rowN H (l.set k x)).getD 0 ByteArray.empty = foldAt x k (pathTo l k H) H := by
  have h := fold_path (l.set k x) k H (by rw [List.length_set, hl]) hk H (Nat.le_refl _)
  rw [set_path, Nat.div_eq_of_lt hk] at h
  rw [← h]
  have e : (l.set k x).getD k ByteArray.empty = x := by
    rw [List.getD_eq_getElem?_getD, List.getElem?_set_self (by omega)]; rfl
  rw [e]
theorem own_root (l : List ByteArray) (k H : Nat) (hl : l.length = 2 ^ H) (hk : k < 2 ^ H) : (rowN H l).getD 0 ByteArray.empty = foldAt (l.getD k ByteArray.empty) k (pathTo l k H) H := by
  have h := fold_path l k H hl hk H (Nat.le_refl _)
  rw [Nat.div_eq_of_lt hk] at h
  exact h.symm
theorem small_set (l : List ByteArray) (k : Nat) (x : ByteArray) (h : SmallL l) (hx : x.size ≤ 1000000) : SmallL (l.set k x) := by
  intro i
  by_cases hi : i = k
  · subst hi
    rw [List.getD_eq_getElem?_getD, List.getElem?_set]
    by_cases hl : i < l.length
    · simp [hl]; exact hx
    · simp [hl]
  · rw [List.getD_eq_getElem?_getD, List.getElem?_set_ne (Ne.symm hi), ← List.getD_eq_getElem?_getD]; exact h i
theorem small_path (l : List ByteArray) (i H : Nat) (h : SmallL l) : SmallL (pathTo l i H) := by
  intro k
  by_cases hk : k < H
  · rw [pathTo_get l i H k hk]; exact smallL_n l h k _
  · rw [List.getD_eq_getElem?_getD, List.getElem?_eq_none (by rw [pathTo_length]; omega)]
    show ByteArray.empty.size ≤ _; decide
theorem strs_one (l : List ByteArray) : ∀ u ∈ l.map strV, u.oneCell' = true := by
  intro u hu
  obtain ⟨s, _, rfl⟩ := List.mem_map.1 hu
  rfl
theorem strRow_news {w : World} {b off : Nat} {l : List ByteArray} (h : StrRow w (some ⟨b, off, none⟩) l) : ∀ (j : Nat) (u : Value), (l.map strV)[j]? = some u → w.cell? ((⟨b, off, none⟩ : Addr).add j) = some u := by
  intro j u hj
  have hlt : j < l.length := by
    rcases Nat.lt_or_ge j l.length with h1 | h1
    · exact h1
    · rw [List.getElem?_eq_none (by simpa using h1)] at hj; cases hj
  rw [strs_get? l j hlt] at hj
  rw [Addr.add_lit, strRow_cell h j hlt, hj]
end Go.Pal
namespace Go.Proofs.YtggfmnmopfdiaaaGreatDoor
open Go.RowKit Go.Pal

theorem input1_inj (K x y : ByteArray) (hK : K.size ≤ 1000000) (hx : x.size ≤ 1000000) (hy : y.size ≤ 1000000) (h : (⟨(inputL 1 [K, x]).toArray⟩ : ByteArray) = ⟨(inputL 1 [K, y]).toArray⟩) : x = y := by
  have h1 : inputL 1 [K, x] = inputL 1 [K, y] := by
    have := congrArg (fun b : ByteArray => b.data.toList) h
    simpa using this
  unfold inputL at h1
  have h2 := ShaApart.flat_inj [K, x] [K, y] (by
    intro p hp
    simp only [List.mem_cons, List.not_mem_nil, or_false] at hp
    rcases hp with rfl | rfl <;> omega) (by
    intro p hp
    simp only [List.mem_cons, List.not_mem_nil, or_false] at hp
    rcases hp with rfl | rfl <;> omega) (List.cons.inj h1).2
  exact (List.cons.inj (List.cons.inj h2).2).1
theorem input3_inj (l m : List ByteArray) (hl : SmallL l) (hm : SmallL m) (h : (⟨(inputL 3 l).toArray⟩ : ByteArray) = ⟨(inputL 3 m).toArray⟩) : l = m := by
  have h1 : inputL 3 l = inputL 3 m := by
    have := congrArg (fun b : ByteArray => b.data.toList) h
    simpa using this
  unfold inputL at h1
  have small : ∀ l : List ByteArray, SmallL l → ∀ p ∈ l, p.size < 4294967296 := by
    intro l hl p hp
    obtain ⟨i, hi, rfl⟩ := List.getElem_of_mem hp
    have := hl i
    rw [List.getD_eq_getElem?_getD, List.getElem?_eq_getElem hi] at this
    simp at this; omega
  exact ShaApart.flat_inj l m (small l hl) (small m hm) (List.cons.inj h1).2

theorem chain_clash (k : Nat) (hk : k < 256) (v x : ByteArray) (hv : v.size ≤ 1000000) (hx : x.size ≤ 1000000) (hne : v ≠ x) : ∀ n, chainB (k : Int) v n = chainB (k : Int) x n → ∃ j, j < n ∧ (⟨(inputL 1 [be 1 k, chainB (k : Int) v j]).toArray⟩ : ByteArray) ≠ ⟨(inputL 1 [be 1 k, chainB (k : Int) x j]).toArray⟩ ∧ shaB ⟨(inputL 1 [be 1 k, chainB (k : Int) v j]).toArray⟩ = shaB ⟨(inputL 1 [be 1 k, chainB (k : Int) x j]).toArray⟩
  | 0, h => absurd h hne
  | n + 1, h => by
    by_cases he : chainB (k : Int) v n = chainB (k : Int) x n
    · obtain ⟨j, h1, h2⟩ := chain_clash k hk v x hv hx hne n he
      exact ⟨j, by omega, h2⟩
    · refine ⟨n, by omega, fun hs => he (input1_inj _ _ _ (by rw [be_size]; omega) (chainB_size _ _ hv n) (chainB_size _ _ hx n) hs), ?_⟩
      have e : ((k : Int) % 256).toNat = k := by omega
      rw [chainB, chainB, stepB, stepB, e] at h
      exact h

theorem turn_clash (dl : List Nat) (vs : List ByteArray) (k : Nat) (x : ByteArray) (hk : k < 67) (hlen : vs.length = 67) (hs : SmallL vs) (hx : x.size ≤ 1000000) (hne : vs.getD k ByteArray.empty ≠ x)
    (h : recoverB dl vs = recoverB dl (vs.set k x)) : ∃ a b, a ∈ roadR dl vs 67 ++ [⟨(inputL 3 (walkL vs fun k => 15 - dl.getD k 0)).toArray⟩] ∧ b ∈ roadR dl (vs.set k x) 67 ++ [⟨(inputL 3 (walkL (vs.set k x) fun k => 15 - dl.getD k 0)).toArray⟩] ∧ a ≠ b ∧ shaB a = shaB b := by
  by_cases hi : (⟨(inputL 3 (walkL vs fun k => 15 - dl.getD k 0)).toArray⟩ : ByteArray) = ⟨(inputL 3 (walkL (vs.set k x) fun k => 15 - dl.getD k 0)).toArray⟩
  · have hE := input3_inj _ _ (fun i => walkL_le _ _ 1000000 (by omega) hs i) (fun i => walkL_le _ _ 1000000 (by omega) (small_set vs k x hs hx) i) hi
    have g1 := walkL_get vs (fun k => 15 - dl.getD k 0) k (by omega)
    have g2 := walkL_get (vs.set k x) (fun k => 15 - dl.getD k 0) k (by rw [List.length_set]; omega)
    have ex : (vs.set k x).getD k ByteArray.empty = x := by
      rw [List.getD_eq_getElem?_getD, List.getElem?_set_self (by omega)]; rfl
    rw [ex] at g2
    rw [← hE, g1] at g2
    obtain ⟨j, hj, h1, h2⟩ := chain_clash k (by omega) _ x (hs k) hx hne _ g2
    refine ⟨_, _, List.mem_append_left _ ?_, List.mem_append_left _ ?_, h1, h2⟩
    · exact List.mem_flatMap.2 ⟨k, List.mem_range.2 hk, List.mem_map.2 ⟨j, List.mem_range.2 hj, rfl⟩⟩
    · exact List.mem_flatMap.2 ⟨k, List.mem_range.2 hk, List.mem_map.2 ⟨j, List.mem_range.2 hj, by rw [ex]⟩⟩
  · exact ⟨_, _, List.mem_append_right _ (List.mem_singleton.2 rfl), List.mem_append_right _ (List.mem_singleton.2 rfl), hi, h⟩

end Go.Proofs.YtggfmnmopfdiaaaGreatDoor
