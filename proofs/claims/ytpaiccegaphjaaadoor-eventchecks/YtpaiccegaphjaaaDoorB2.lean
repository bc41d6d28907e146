/-
  Contracts of wots: secrets, walk (with each of the three functions that it is handed), Public, Sign, Recover.
  Contracts of wots.Public, wots.Sign and wots.Recover.
  Contracts of merkle: areLeaves, Root, Path; of the document's May; of the law's own awake and long.
  Contracts of merkle: Path, Fold; of the law's own awake and long.
-/
import Derived.Test.YtpaiccegaphjaaaDoorB1
import Derived.Deep.AppendLies
namespace Go.Pal
open Go.RowKit
/-- Where the chains of a key begin; where they are, so many steps on. -/
def secretsL (seed : ByteArray) (leaf : Nat) : List ByteArray := (List.range 67).map fun k : Nat => secretB seed leaf k
def walkL (vs : List ByteArray) (st : Nat → Nat) : List ByteArray := (List.range vs.length).map fun k : Nat => chainB k (vs.getD k ByteArray.empty) (st k)
theorem secretsL_length (seed : ByteArray) (leaf : Nat) : (secretsL seed leaf).length = 67 := by simp [secretsL]
theorem secretsL_get (seed : ByteArray) (leaf k : Nat) (h : k < 67) : (secretsL seed leaf).getD k ByteArray.empty = secretB seed leaf k := by
  rw [List.getD_eq_getElem?_getD, secretsL, List.getElem?_map, List.getElem?_range h]; rfl
theorem walkL_length (vs : List ByteArray) (st : Nat → Nat) : (walkL vs st).length = vs.length := by simp [walkL]
theorem walkL_get (vs : List ByteArray) (st : Nat → Nat) (k : Nat) (h : k < vs.length) : (walkL vs st).getD k ByteArray.empty = chainB k (vs.getD k ByteArray.empty) (st k) := by
  rw [List.getD_eq_getElem?_getD, walkL, List.getElem?_map, List.getElem?_range h]; rfl
theorem stepsN_nat (n : Nat) (h : n ≤ 1000) : stepsN (n : Int) = n := by
  unfold stepsN; rw [if_pos (by omega)]; omega
end Go.Pal
namespace Go.Proofs.YtpaiccegaphjaaaDoor
open Go.RowKit Go.Pal

set_option maxHeartbeats 1000000 in
set_option maxRecDepth 100000 in
theorem walk_recover (w : World) (b off cap : Nat) (vs : List ByteArray) (db dg dc : Nat) (dl : List Nat) (hdp : w.cell? ⟨db, 0, none⟩ = some (.slice (some ⟨dg, 0, none⟩) 67 dc)) (hdc : ∀ k, k < 67 → w.cell? ⟨dg, k, none⟩ = some (.int .i64 (dl.getD k 0 : Nat))) (hdb : db < w.heap.size) (hdg : dg < w.heap.size) (hd16 : ∀ k, dl.getD k 0 < 16) (hv : StrRow w (some ⟨b, off, none⟩) vs) (_hbl : b < w.heap.size) (hlen : vs.length = 67) (hsm : SmallL vs) (ht : Tabs w) :
    Calls Tryd.prog 53 #[.slice (some ⟨b, off, none⟩) 67 cap, .func (.func 54) #[] #[.pointer (some ⟨db, 0, none⟩)]] w fun e w' => e = .returned (.slice (some ⟨w.heap.size, 0, none⟩) 67 67) ∧ StrRow w' (some ⟨w.heap.size, 0, none⟩) (walkL vs fun k => 15 - dl.getD k 0) ∧ w.heap.size < w'.heap.size ∧ Below w.heap.size w w' := by
  have hm : (Instr.makeSlice 22 (.int .i64 67) (.int .i64 67)).run Tryd.prog w = .ok (.slice (some ⟨w.heap.size, 0, none⟩) 67 67) (w.alloc (.cells (List.replicate 67 (Value.string ⟨#[]⟩)).toArray 9)) := makeS 67 (by omega) w
  have HCH := Lib.hid (fun W (k : Nat) hT => (show Calls Tryd.prog 70 #[.int .i64 (k : Int), .string (vs.getD k ByteArray.empty), .int .i64 ((15 : Int) - ((dl.getD k 0 : Nat) : Int))] W fun e w' => e = .returned (.string (chainB k (vs.getD k ByteArray.empty) (15 - dl.getD k 0))) ∧ Below W.heap.size W w' from by
    have h := chain_any W k ((15 : Int) - ((dl.getD k 0 : Nat) : Int)) (vs.getD k ByteArray.empty) (hsm k) hT
    have hd := hd16 k
    rw [show stepsN ((15 : Int) - ((dl.getD k 0 : Nat) : Int)) = 15 - dl.getD k 0 from by first | exact stepsN_nat _ (by omega) | (rw [show (15 : Int) - ((dl.getD k 0 : Nat) : Int) = ((15 - dl.getD k 0 : Nat) : Int) by omega]; exact stepsN_nat _ (by omega))] at h
    exact h))
  have hget := fun k h => walkL_get vs (fun k => 15 - dl.getD k 0) k h
  rw [hlen] at hget
  have HG := Lib.hid hget
  have HV := Lib.hid hv
  have HT := Lib.hid ht
  have HDC := Lib.hid hdc
  have H16 := Lib.hid hd16
  have hUl : ((walkL vs fun k => 15 - dl.getD k 0).map strV).length = 67 := by rw [List.length_map, walkL_length, hlen]
  have HLU := Lib.hid (show (walkL vs fun k => 15 - dl.getD k 0).length = 67 by rw [walkL_length, hlen])
  have HCK := Lib.hid (fun (W : World) (h : StrRow W (some ⟨b, off, none⟩) vs) k (hk : k < 67) => (show W.cell? ⟨b, off + k, none⟩ = some (.string (vs.getD k ByteArray.empty)) from by
    rcases h with h | ⟨b2, o2, he, _, hc⟩
    · rw [h] at hlen; simp at hlen
    · cases he; exact hc k (by omega)))
  generalize (walkL vs fun k => 15 - dl.getD k 0) = U at *
  generalize hZ : List.replicate 67 (Value.string ⟨#[]⟩) = Z at *
  have hZl : Z.length = 67 := by rw [← hZ]; simp
  have hZg : ∀ k, k < 67 → Z[k]? = some (.string ⟨#[]⟩) := fun k hk => by rw [← hZ, List.getElem?_replicate, if_pos hk]
  have HZG := Lib.hid hZg
  have HUL := Lib.hid hUl
  have HZL := Lib.hid hZl
  clear ht hZ hZg hUl hZl hget hv hlen hsm hdc hd16
  go_enter Tryd.func53, Tryd.ntmps53
  go_wp2
  go_loopw [13] (fun i wr => ∃ k : Nat, k ≤ 67 ∧ i = .int .i64 k ∧ Blk wr w.heap.size 9 (partL (U.map strV) Z k) ∧ Below w.heap.size w wr) (fun i _ => 67 - (intOf i).toNat)
  case atStart => exact ⟨0, by omega, rfl, by rw [partL_zero]; exact Blk.new' _ _ _ rfl, (Below.refl _ _).alloc (Nat.le_refl _) _⟩
  case round =>
    clear hm
    obtain ⟨k, hk, rfl, hB, hb⟩ := hrel
    have hUl := HUL.out
    have hZl := HZL.out
    by_cases hlt : k < 67
    · have d0 := (hB.cell k).trans ((partL_get _ _ k (by omega)).trans (HZG.out k hlt))
      have f0 := hB.frozen k
      have hlt2 := hB.lt
      have hgk := HG.out k hlt
      have ck := HCK.out wr (HV.out.below hb) k hlt
      have p0 := (hb.cell (p := ⟨db, 0, none⟩) hdb).trans hdp
      have p1 := (hb.cell (p := ⟨dg, k, none⟩) hdg).trans (HDC.out k hlt)
      have hd := H16.out k
      have hset : ∀ w' : World, Below wr.heap.size wr w' → Blk (w'.setCell ⟨w.heap.size, k, none⟩ (.string (chainB k (vs.getD k ByteArray.empty) (15 - dl.getD k 0)))) w.heap.size 9 (partL (U.map strV) Z (k + 1)) := by
        intro w' hb'
        have h2 := (hB.below hb' hlt2).set k ((U.map strV)[k]'(by omega))
        rw [partL_set _ _ k (by omega) (by omega), (List.getElem_eq_iff _).2 (strs_get? U k (by rw [HLU.out]; exact hlt)), hgk] at h2
        exact h2
      have hbset : ∀ (z : ByteArray) (w' : World), Below wr.heap.size wr w' → Below w.heap.size w (w'.setCell ⟨w.heap.size, k, none⟩ (.string z)) := fun z w' hb' => (hb.trans (hb'.mono hb.size)).setCell (p := ⟨w.heap.size, k, none⟩) (Nat.le_refl _) _
      have HCHK := Lib.hid (HCH.out wr k (HT.out.below hb))
      have HSET := Lib.hid hset
      have HBS := Lib.hid hbset
      generalize chainB k (vs.getD k ByteArray.empty) (15 - dl.getD k 0) = z at *
      generalize vs.getD k ByteArray.empty = y at *
      generalize dl.getD k 0 = dk at *
      clear hset hbset hgk hB hb hUl hZl HCH HG HCK
      go_wp2_with (first | (go_at_call 70; refine HCHK.out.mono ?_; rintro e w1 ⟨rfl, b1⟩; have d1 := (b1.cell (p := ⟨w.heap.size, k, none⟩) hlt2).trans d0; have f1 := (b1.frozen (p := ⟨w.heap.size, k, none⟩) hlt2).trans f0) | go_in)
      go_roundw
      case rel => exact ⟨k + 1, by omega, by go_num, HSET.out _ b1, HBS.out _ _ b1⟩
      case measure => simp [intOf]; omega
    · obtain rfl : k = 67 := by omega
      have hall := partL_all (U.map strV) Z (by omega)
      rw [hUl] at hall
      rw [hall] at hB
      have HSR := Lib.hid (strRow_blk hB)
      have HB := Lib.hid hb
      have HLT := Lib.hid hB.lt
      clear hB hb hall hUl hZl
      rw [show ((67 : Nat) : Int) = 67 from rfl]
      go_wp2
      go_ret
      exact ⟨rfl, HSR.out, HLT.out, HB.out⟩


end Go.Proofs.YtpaiccegaphjaaaDoor
namespace Go.Pal
open Go.RowKit
theorem totL_le (l : List ByteArray) (B : Nat) (h : ∀ i, (l.getD i ByteArray.empty).size ≤ B) : totL l ≤ l.length * (4 + B) := by
  induction l with
  | nil => simp [totL]
  | cons x l ih =>
    have e : totL (x :: l) = (4 + x.size) + totL l := by simp [totL]
    have h0 : x.size ≤ B := by simpa using h 0
    have h1 := ih (fun i => by simpa using h (i + 1))
    rw [e, List.length_cons, Nat.succ_mul]; omega
theorem chainB_le (k : Int) (x : ByteArray) (B : Nat) (hB : 32 ≤ B) (hx : x.size ≤ B) : ∀ n, (chainB k x n).size ≤ B
  | 0 => hx
  | n + 1 => by rw [chainB, stepB, shaB_size']; exact hB
theorem walkL_le (vs : List ByteArray) (st : Nat → Nat) (B : Nat) (hB : 32 ≤ B) (h : ∀ i, (vs.getD i ByteArray.empty).size ≤ B) (i : Nat) : ((walkL vs st).getD i ByteArray.empty).size ≤ B := by
  by_cases hi : i < vs.length
  · rw [walkL_get vs st i hi]; exact chainB_le _ _ B hB (h i) _
  · rw [List.getD_eq_getElem?_getD, List.getElem?_eq_none (by rw [walkL_length]; omega)]
    show ByteArray.empty.size ≤ _; exact Nat.zero_le _
theorem secretsL_le (seed : ByteArray) (leaf i : Nat) : ((secretsL seed leaf).getD i ByteArray.empty).size ≤ 32 := by
  by_cases hi : i < 67
  · rw [secretsL_get seed leaf i hi, secretB, shaB_size']; exact Nat.le_refl _
  · rw [List.getD_eq_getElem?_getD, List.getElem?_eq_none (by rw [secretsL_length]; omega)]
    show ByteArray.empty.size ≤ _; exact Nat.zero_le _
theorem secrets_small (seed : ByteArray) (leaf : Nat) : SmallL (secretsL seed leaf) := fun i => by have := secretsL_le seed leaf i; omega
def endsL (seed : ByteArray) (leaf : Nat) : List ByteArray := walkL (secretsL seed leaf) fun _ => 15
def publicB (seed : ByteArray) (leaf : Nat) : ByteArray := shaB ⟨(inputL 3 (endsL seed leaf)).toArray⟩
def signL (seed : ByteArray) (leaf : Nat) (dl : List Nat) : List ByteArray := walkL (secretsL seed leaf) fun k => dl.getD k 0
def recoverB (dl : List Nat) (vs : List ByteArray) : ByteArray := shaB ⟨(inputL 3 (walkL vs fun k => 15 - dl.getD k 0)).toArray⟩
theorem chainB_add (k : Int) (x : ByteArray) (m : Nat) : ∀ n, chainB k (chainB k x m) n = chainB k x (m + n)
  | 0 => rfl
  | n + 1 => by rw [chainB, chainB_add k x m n]; rfl
/-- What is signed is recovered. -/
theorem sign_back (seed : ByteArray) (leaf : Nat) (dl : List Nat) (h : ∀ k, dl.getD k 0 < 16) : recoverB dl (signL seed leaf dl) = publicB seed leaf := by
  unfold recoverB publicB
  congr 4
  unfold endsL signL
  apply List.ext_getElem?
  intro k
  by_cases hk : k < 67
  · have l1 : (walkL (walkL (secretsL seed leaf) fun k => dl.getD k 0) fun k => 15 - dl.getD k 0).length = 67 := by rw [walkL_length, walkL_length, secretsL_length]
    have l2 : (walkL (secretsL seed leaf) fun _ => 15).length = 67 := by rw [walkL_length, secretsL_length]
    have g1 := walkL_get (walkL (secretsL seed leaf) fun k => dl.getD k 0) (fun k => 15 - dl.getD k 0) k (by rw [walkL_length, secretsL_length]; exact hk)
    rw [walkL_get (secretsL seed leaf) (fun k => dl.getD k 0) k (by rw [secretsL_length]; exact hk), chainB_add] at g1
    have g2 := walkL_get (secretsL seed leaf) (fun _ => 15) k (by rw [secretsL_length]; exact hk)
    have hd := h k
    rw [show dl.getD k 0 + (15 - dl.getD k 0) = 15 by omega, ← g2] at g1
    rw [List.getD_eq_getElem?_getD, List.getD_eq_getElem?_getD, List.getElem?_eq_getElem (by omega), List.getElem?_eq_getElem (by omega)] at g1
    rw [List.getElem?_eq_getElem (by omega), List.getElem?_eq_getElem (by omega)]
    exact congrArg some g1
  · rw [List.getElem?_eq_none (by rw [walkL_length, walkL_length, secretsL_length]; omega), List.getElem?_eq_none (by rw [walkL_length, secretsL_length]; omega)]
end Go.Pal
namespace Go.Proofs.YtpaiccegaphjaaaDoor
open Go.RowKit Go.Pal

set_option maxHeartbeats 1000000 in
set_option maxRecDepth 100000 in
theorem recover_yes (w : World) (d : ByteArray) (b off cap : Nat) (vs : List ByteArray) (hd : d.size = 32) (hv : StrRow w (some ⟨b, off, none⟩) vs) (hbl : b < w.heap.size) (hlen : vs.length = 67) (hsm : SmallL vs) (ht : Tabs w) :
    Calls Tryd.prog 34 #[.string d, .slice (some ⟨b, off, none⟩) 67 cap] w fun e w' => e = .returned (.tuple #[.string (recoverB (digL d.data.toList) vs), .bool true]) ∧ Below w.heap.size w w' := by
  have hmf : ∀ (fn : Fn) (first cap : Array Value) (w : World), (Instr.makeFunc fn first cap).run Tryd.prog w = .ok (.func fn first cap) w := fun _ _ _ _ => rfl
  have HD := Lib.hid (digits_yes d hd w)
  have hdl := digL_length d.data.toList
  have h16 := getD_lt (digL d.data.toList) 16 (by omega) (digL_lt d.data.toList (by simp; omega))
  rw [show d.data.toList.length = 32 by simp [hd]] at hdl
  generalize digL d.data.toList = dl at *
  have HW := Lib.hid (fun W db dg dc h1 h2 h3 h4 h5 h6 hT => walk_recover W b off cap vs db dg dc dl h1 h2 h3 h4 h16 h5 h6 hlen hsm hT)
  have hel : (walkL vs fun k => 15 - dl.getD k 0).length = 67 := by rw [walkL_length, hlen]
  have htot : totL (walkL vs fun k => 15 - dl.getD k 0) ≤ 2147483647 := by
    have := totL_le (walkL vs fun k => 15 - dl.getD k 0) 1000000 (walkL_le _ _ 1000000 (by omega) hsm)
    rw [hel] at this; omega
  have HTG := Lib.hid (fun W a c hT h => tag_any W 3 a c (walkL vs fun k => 15 - dl.getD k 0) hT h htot (by omega))
  rw [hel] at HTG
  have hp : recoverB dl vs = shaB ⟨(inputL 3 (walkL vs fun k => 15 - dl.getD k 0)).toArray⟩ := rfl
  rw [← hp] at HTG
  generalize recoverB dl vs = P at *
  obtain ⟨Wl, hWl⟩ : ∃ Wl, Wl = walkL vs fun k => 15 - dl.getD k 0 := ⟨_, rfl⟩
  rw [← hWl] at HW HTG
  have HT := Lib.hid ht
  have HV := Lib.hid hv
  have HDL := Lib.hid hdl
  clear ht hdl h16 hel htot hp hsm hlen hv hWl
  go_enter Tryd.func34, Tryd.ntmps34
  go_wp2_with fail
  refine HD.out.mono ?_
  rintro e w1 ⟨⟨v, rfl, hown⟩, b1⟩
  obtain ⟨dg, dc, rfl, _, hdg⟩ := hown.form (by omega)
  have HDC := Lib.hid (fun k (hk : k < 67) => (hown.cellAt k (by omega)).trans (ints_get? dl k (by have := HDL.out; omega)))
  have B1 := Lib.hid b1
  clear b1 hown
  go_wp2_with fail
  have c2 := B1.out.alloc B1.out.size (.cells #[.slice (some ⟨dg, 0, none⟩) 67 dc] 62)
  have hnew : (w1.alloc (.cells #[.slice (some ⟨dg, 0, none⟩) 67 dc] 62)).cell? ⟨w1.heap.size, 0, none⟩ = some (.slice (some ⟨dg, 0, none⟩) 67 dc) := (Blk.new w1 62 [.slice (some ⟨dg, 0, none⟩) 67 dc]).cell 0
  refine (HW.out _ _ _ _ hnew (fun k hk => (World.cell?_of_block (heap_alloc_old w1 _ hdg)).trans (HDC.out k hk)) (by simp) (by simp; omega) (HV.out.below c2) (Nat.lt_of_lt_of_le hbl c2.size) (HT.out.below c2)).mono ?_
  rintro e w4 ⟨rfl, r4, z4, b4⟩
  rw [show (w1.alloc (.cells #[.slice (some ⟨dg, 0, none⟩) 67 dc] 62)).heap.size = w1.heap.size + 1 by simp] at r4
  have B4 := Lib.hid (c2.trans (b4.mono c2.size))
  have R4 := Lib.hid r4
  clear b4 r4 z4 c2 hnew
  go_wp2_with fail
  refine (HTG.out _ _ _ (HT.out.below B4.out) R4.out).mono ?_
  rintro e w5 ⟨rfl, b5⟩
  have B5 := Lib.hid (B4.out.trans (b5.mono B4.out.size))
  clear b5
  go_wp2
  go_ret2
  exact ⟨rfl, B5.out⟩

end Go.Proofs.YtpaiccegaphjaaaDoor
namespace Go.Proofs.YtpaiccegaphjaaaDoor
open Go.RowKit Go.Pal

/-- How long a slice in a slot is. -/
def sliceLen : Value → Nat | .slice _ n _ => n | _ => 0

end Go.Proofs.YtpaiccegaphjaaaDoor
namespace Go.Proofs.YtpaiccegaphjaaaDoor
open Go.RowKit Go.Pal

theorem strV_one (s : ByteArray) : ∀ u ∈ [strV s], u.oneCell' = true := by
  intro u hu
  obtain rfl : u = strV s := by simpa using hu
  rfl

set_option maxHeartbeats 1000000 in
set_option maxRecDepth 100000 in
theorem fold_yes (w : World) (leaf : ByteArray) (i : Nat) (a : Option Addr) (cap : Nat) (ss : List ByteArray) (hn : ss.length ≤ 4) (hi : i < 2 ^ ss.length) (hlf : leaf.size ≤ 1000000) (hss : StrRow w a ss) (hsm : SmallL ss) (ht : Tabs w) :
    Calls Tryd.prog 36 #[.string leaf, .int .i64 i, .slice a ss.length cap] w fun e w' => e = .returned (.tuple #[.string (foldAt leaf i ss ss.length), .bool true]) ∧ Below w.heap.size w w' := by
  have HZ := Lib.hid (foldAt_size leaf i ss hlf)
  have hstep : ∀ k, foldAt leaf i ss (k + 1) = if i / 2 ^ k % 2 = 1 then pairB (ss.getD k ByteArray.empty) (foldAt leaf i ss k) else pairB (foldAt leaf i ss k) (ss.getD k ByteArray.empty) := fun k => rfl
  have HST := Lib.hid hstep
  have HSS := Lib.hid hss
  have HSM := Lib.hid hsm
  have HT := Lib.hid ht
  have h16 := pow_le16 ss.length hn
  have hpow : (1 : Int) * 2 ^ ss.length = ((2 ^ ss.length : Nat) : Int) := by rw [Int.one_mul, Int.natCast_pow]; rfl
  have H0 := Lib.hid (show foldAt leaf i ss 0 = leaf from rfl)
  obtain ⟨C, hC⟩ : ∃ C, C = foldAt leaf i ss := ⟨_, rfl⟩
  rw [← hC] at HZ HST H0 ⊢
  clear hstep hss hsm ht hC
  go_enter Tryd.func36, Tryd.ntmps36
  go_wp2_with fail
  refine (clone_any leaf _ (by omega)).mono ?_
  rintro e w2 ⟨rfl, b2⟩
  have HB2 := Lib.hid b2
  clear b2 hpow h16
  go_wp2
  go_loopw [1, 8, 30] (fun vi v8 vc wr => ∃ k q : Nat, k ≤ ss.length ∧ vi = .int .i64 q ∧ q = i / 2 ^ k ∧ q ≤ i ∧ v8 = .string (C k) ∧ vc = .int .i64 k ∧ Below w.heap.size w wr) (fun _ _ vc _ => ss.length - (intOf vc).toNat)
  case atStart => exact ⟨0, i, by omega, rfl, by simp, by omega, by rw [H0.out], rfl, HB2.out⟩
  case round =>
    clear HB2
    obtain ⟨k, q, hk, rfl, hq, hqi, rfl, rfl, hb⟩ := hrel
    by_cases hlt : k < ss.length
    · rcases HSS.out with h0 | ⟨b, off, rfl, hbl, hc⟩
      · rw [h0] at hlt; simp at hlt
      have c0 := (hb.cell (p := ⟨b, off + k, none⟩) hbl).trans (hc k hlt)
      have hst := HST.out k
      have hqh : q / 2 = i / 2 ^ (k + 1) := by rw [half_step, ← hq]
      rw [← hq] at hst
      have hz := HZ.out k
      have hps := HSM.out k
      generalize ss.getD k ByteArray.empty = p at *
      generalize C k = X at *
      generalize hX2 : C (k + 1) = X2 at *
      have HX2 := Lib.hid hX2
      have HB := Lib.hid hb
      have HQ := Lib.hid hqh
      have hi16 : q < 16 := by have := pow_le16 ss.length hn; omega
      clear hX2 hb hqh hc hq
      have HPA := Lib.hid (fun W x y hx hy hT => pair_any W x y hx hy hT)
      by_cases hpar : q % 2 = 1
      · rw [if_pos hpar] at hst
        have HSTEP := Lib.hid hst
        have hp : ((q : Int) % 2 == 1) = true := by simp; omega
        clear hst hpar
        go_wp2_with fail
        have c3 := HB.out.alloc HB.out.size (.cells #[.string p, .string X] 71)
        refine (HPA.out _ p X hps hz (HT.out.below c3)).mono ?_
        rintro e w4 ⟨rfl, b4⟩
        have C4 := Lib.hid (c3.trans (b4.mono c3.size))
        clear c3 b4
        rw [← HSTEP.out]
        go_wp2
        go_roundw
        case rel => exact ⟨k + 1, q / 2, by omega, by go_num, HQ.out, by omega, by rw [HX2.out], by go_num, C4.out⟩
        case measure => simp [intOf]; omega
      · rw [if_neg hpar] at hst
        have HSTEP := Lib.hid hst
        have hp : ((q : Int) % 2 == 1) = false := by simp; omega
        clear hst hpar
        go_wp2_with fail
        have c3 := HB.out.alloc HB.out.size (.cells #[.string X, .string p] 71)
        refine (HPA.out _ X p hz hps (HT.out.below c3)).mono ?_
        rintro e w4 ⟨rfl, b4⟩
        have C4 := Lib.hid (c3.trans (b4.mono c3.size))
        clear c3 b4
        rw [← HSTEP.out]
        go_wp2
        go_roundw
        case rel => exact ⟨k + 1, q / 2, by omega, by go_num, HQ.out, by omega, by rw [HX2.out], by go_num, C4.out⟩
        case measure => simp [intOf]; omega
    · obtain rfl : k = ss.length := by omega
      have HB := Lib.hid hb
      clear hb hq
      go_wp2
      go_ret2
      exact ⟨rfl, HB.out⟩

set_option maxHeartbeats 1000000 in
set_option maxRecDepth 100000 in
theorem fold_no (w : World) (leaf : ByteArray) (i : Int) (a : Option Addr) (n cap : Nat) (h : 4 < n ∨ i < 0 ∨ 2 ^ n ≤ i) (hn : n ≤ maxLen) :
    Calls Tryd.prog 36 #[.string leaf, .int .i64 i, .slice a n cap] w fun e w' => e = .returned (.tuple #[.string ⟨#[]⟩, .bool false]) ∧ w = w' := by
  unfold maxLen at hn
  have hcase : 4 < n ∨ (n ≤ 4 ∧ i < 0) ∨ (n ≤ 4 ∧ 0 ≤ i ∧ (2 : Int) ^ n ≤ i) := by
    rcases h with h | h | h
    · exact .inl h
    · by_cases h4 : 4 < n
      · exact .inl h4
      · exact .inr (.inl ⟨by omega, h⟩)
    · by_cases h4 : 4 < n
      · exact .inl h4
      · by_cases h5 : i < 0
        · exact .inr (.inl ⟨by omega, h5⟩)
        · exact .inr (.inr ⟨by omega, by omega, h⟩)
  clear h
  rcases hcase with h | ⟨h, h1⟩ | ⟨h, h1, h2⟩
  · go_enter Tryd.func36, Tryd.ntmps36
    go_wp2
    go_ret2
    exact ⟨rfl, rfl⟩
  · go_enter Tryd.func36, Tryd.ntmps36
    go_wp2
    go_ret2
    exact ⟨rfl, rfl⟩
  · have h5 : n = 0 ∨ n = 1 ∨ n = 2 ∨ n = 3 ∨ n = 4 := by omega
    rcases h5 with rfl | rfl | rfl | rfl | rfl
    all_goals
      simp at h2
      go_enter Tryd.func36, Tryd.ntmps36
      go_wp2
      go_ret2
      exact ⟨rfl, rfl⟩

end Go.Proofs.YtpaiccegaphjaaaDoor
