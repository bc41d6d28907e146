/-
  Contracts of key: takeDigests, Verify.
-/
import Derived.Test.YtggfmnmopfdiaaaGreatDoorB7
namespace Go.Proofs.YtggfmnmopfdiaaaGreatDoor
open Go.RowKit Go.Pal

theorem Rd.grown {w w' : World} {b : Nat} {r : ByteArray} {bad : Bool} {row : Option Nat} (h : Rd w b r bad) (hg : w.grownBy w' row) (hne : some b ≠ row) : Rd w' b r bad :=
  have hb := hg.block b h.lt hne
  ⟨(World.cell?_of_block (a := ⟨b, 0, none⟩) hb).trans h.c0, (World.cell?_of_block (a := ⟨b, 1, none⟩) hb).trans h.c1, (World.frozen?_of_block (a := ⟨b, 0, none⟩) hb).trans h.f0, (World.frozen?_of_block (a := ⟨b, 1, none⟩) hb).trans h.f1⟩
theorem Rd.set {w : World} {b : Nat} {r : ByteArray} {bad : Bool} (h : Rd w b r bad) {p : Addr} (hne : b ≠ p.block) (v : Value) : Rd (w.setCell p v) b r bad :=
  have hb := Below.heap_setCell w p v b hne
  ⟨(World.cell?_of_block (a := ⟨b, 0, none⟩) hb).trans h.c0, (World.cell?_of_block (a := ⟨b, 1, none⟩) hb).trans h.c1, (World.frozen?_of_block (a := ⟨b, 0, none⟩) hb).trans h.f0, (World.frozen?_of_block (a := ⟨b, 1, none⟩) hb).trans h.f1⟩

set_option maxHeartbeats 2000000 in
set_option maxRecDepth 100000 in
theorem take32 (w : World) (b : Nat) (r : ByteArray) (n : Nat) (h : Rd w b r false) (hz : 32 * n ≤ r.size) (hr : r.size ≤ 100000) :
    Calls Tryz.prog 71 #[.pointer (some ⟨b, 0, none⟩), .int .i64 (n : Int)] w fun e w' => e = .returned (.slice (some ⟨w.heap.size, 0, none⟩) n n) ∧
      Blk w' w.heap.size 9 ((cutL r 0 n).map strV) ∧ Rd w' b (r.extract (32 * n) r.size) false ∧ w.grownBy w' (some b) := by
  have hm := makeS n (by omega) w
  have hbl := h.lt
  have HG := Lib.hid (fun k hk => cutL_get r 0 n k hk)
  have HLU := Lib.hid (cutL_length r 0 n)
  have HR0 := Lib.hid h
  obtain ⟨Z, hZ⟩ : ∃ Z, Z = List.replicate n (Value.string ⟨#[]⟩) := ⟨_, rfl⟩
  rw [← hZ] at hm
  have HZL := Lib.hid (show Z.length = n by rw [hZ]; simp)
  have HZG := Lib.hid (fun k (hk : k < n) => (show Z[k]? = some (.string ⟨#[]⟩) by rw [hZ, List.getElem?_replicate, if_pos hk]))
  have hUl : ((cutL r 0 n).map strV).length = n := by rw [List.length_map, cutL_length]
  have HUL := Lib.hid hUl
  generalize cutL r 0 n = U at *
  clear hZ h hUl
  go_enter Tryz.func71, Tryz.ntmps71
  go_wp2
  go_loopw [11] (fun i wr => ∃ k : Nat, k ≤ n ∧ i = .int .i64 k ∧ Blk wr w.heap.size 9 (partL (U.map strV) Z k) ∧ Rd wr b (r.extract (32 * k) r.size) false ∧ w.grownBy wr (some b)) (fun i _ => n - (intOf i).toNat)
  case atStart => exact ⟨0, by omega, rfl, by rw [partL_zero]; exact Blk.new' _ _ _ rfl, by rw [Nat.mul_zero, ByteArray.extract_zero_size]; exact HR0.out.below ((Below.refl _ _).alloc (Nat.le_refl _) _), World.grownBy_alloc w _ _⟩
  case round =>
    clear hm
    obtain ⟨k, hk, rfl, hB, hR, hg⟩ := hrel
    have hUl := HUL.out
    have hZl := HZL.out
    have hlt2 := hB.lt
    have hne : w.heap.size ≠ b := by omega
    by_cases hlt : k < n
    · have d0 := (hB.cell k).trans ((partL_get _ _ k (by omega)).trans (HZG.out k hlt))
      have f0 := hB.frozen k
      have hgk := HG.out k hlt
      have hsz : (r.extract (32 * k) r.size).size = r.size - 32 * k := by rw [ByteArray.size_extract]; omega
      have htk := take_yes 32 wr b (r.extract (32 * k) r.size) hR (by omega) (by omega)
      rw [extract2 _ _ _ _ (by omega), hsz, extract2 _ _ _ _ (by omega), show 32 * k + 0 = 32 * k by omega, show 32 * k + (r.size - 32 * k) = r.size by omega] at htk
      rw [show 0 + 32 * k = 32 * k by omega] at hgk
      have hset : ∀ w' : World, wr.grownBy w' (some b) → Blk (w'.setCell ⟨w.heap.size, k, none⟩ (.string (r.extract (32 * k) (32 * k + 32)))) w.heap.size 9 (partL (U.map strV) Z (k + 1)) := by
        intro w' hb'
        have h2 := (hB.grown hb' (fun e => hne (Option.some.inj e))).set k ((U.map strV)[k]'(by omega))
        rw [partL_set _ _ k (by omega) (by omega), (List.getElem_eq_iff _).2 (strs_get? U k (by rw [HLU.out]; exact hlt)), hgk] at h2
        exact h2
      have hgset : ∀ (z : ByteArray) (w' : World), wr.grownBy w' (some b) → w.grownBy (w'.setCell ⟨w.heap.size, k, none⟩ (.string z)) (some b) :=
        fun z w' hb' => grownBy_newSet (Lib.grownBy_trans hg hb') (Nat.le_refl _) k _
      have d1f : ∀ w' : World, wr.grownBy w' (some b) → w'.cell? ⟨w.heap.size, k, none⟩ = some (.string ⟨#[]⟩) ∧ w'.frozen? ⟨w.heap.size, k, none⟩ = false := fun w' hb' =>
        have e := hb'.block w.heap.size hlt2 (fun e => hne (Option.some.inj e))
        ⟨(World.cell?_of_block (a := ⟨w.heap.size, k, none⟩) e).trans d0, (World.frozen?_of_block (a := ⟨w.heap.size, k, none⟩) e).trans f0⟩
      have HTK := Lib.hid htk
      have HSET := Lib.hid hset
      have HGS := Lib.hid hgset
      have HDF := Lib.hid d1f
      rw [show 32 * k + 32 = 32 * (k + 1) by omega] at HTK HSET
      generalize r.extract (32 * k) (32 * (k + 1)) = z at *
      clear hset hgset d1f htk hgk hB hR hg hUl hZl HG d0 f0
      rw [show ((32 : Nat) : Int) = 32 from rfl] at HTK
      go_wp2_with fail
      refine HTK.out.mono ?_
      rintro e w1 ⟨rfl, r1, g1⟩
      have d1 := (HDF.out w1 g1).1
      have f1 := (HDF.out w1 g1).2
      have R1 := Lib.hid r1
      have G1 := Lib.hid g1
      clear r1 g1
      go_wp2
      go_roundw
      case rel => exact ⟨k + 1, by omega, by go_num, HSET.out _ G1.out, R1.out.set (p := ⟨w.heap.size, k, none⟩) (fun e => hne e.symm) _, HGS.out _ _ G1.out⟩
      case measure => simp [intOf]; omega
    · obtain rfl : k = n := by omega
      have hall := partL_all (U.map strV) Z (by omega)
      rw [hUl] at hall
      rw [hall] at hB
      have HB := Lib.hid hB
      have HR := Lib.hid hR
      have HGG := Lib.hid hg
      clear hB hR hg hall hUl hZl
      go_wp2
      go_ret
      exact ⟨rfl, HB.out, HR.out, HGG.out⟩

theorem verify_no (w : World) (pub m s : ByteArray) (hsz : s.size ≤ 281474976710656) (hs : ∀ h leaf, ¬ SigOk s h leaf) :
    Calls Tryz.prog 39 #[.string pub, .string m, .string s] w fun e w' => e = .returned (.bool false) ∧ Below w.heap.size w w' := by
  have HL := Lib.hid (leaf_no w s hsz hs)
  have hnot : ∀ (x : Bool) (w : World), (Op.unary .not (.bool x)).run Tryz.prog w = .ok (.bool (!x)) w := fun _ _ => rfl
  clear hsz hs
  go_enter Tryz.func39, Tryz.ntmps39
  go_wp2_with (go_at_call 68; refine HL.out.mono ?_; rintro e w1 ⟨rfl, b1⟩)
  go_ret
  exact ⟨rfl, b1⟩

/-- What a signature's bytes lead to. -/
def sigTop (m s : ByteArray) (h leaf : Nat) : ByteArray := namedB h (topB (msgD m) (cutL s 2 67) leaf (cutL s 2146 h))

set_option maxHeartbeats 2000000 in
set_option maxRecDepth 100000 in
theorem verify_yes (w : World) (pub m s : ByteArray) (h leaf : Nat) (hs : SigOk s h leaf) (hm : m.size ≤ 1000000) (ht : Tabs w) :
    Calls Tryz.prog 39 #[.string pub, .string m, .string s] w fun e w' => e = .returned (.bool ((sigTop m s h leaf).toList == pub.toList)) ∧ Below w.heap.size w w' := by
  have hh := hs.hh
  have hz := hs.hz
  have HL := Lib.hid (leaf_yes w s h leaf hs)
  have HMS := Lib.hid (fun W hT => msg_any m hm W hT)
  have ev : cutL (s.extract 2 s.size) 0 67 = cutL s 2 67 := cutL_ext s 2 0 67 (by omega)
  have er : (s.extract 2 s.size).extract (32 * 67) (s.extract 2 s.size).size = s.extract 2146 s.size := by
    rw [show (s.extract 2 s.size).size = s.size - 2 by rw [ByteArray.size_extract]; omega, extract2 _ _ _ _ (by omega), show 2 + (s.size - 2) = s.size by omega]
  have ep : cutL (s.extract 2146 s.size) 0 h = cutL s 2146 h := cutL_ext s 2146 0 h (by omega)
  have z1 : (s.extract 2 s.size).size = s.size - 2 := by rw [ByteArray.size_extract]; omega
  have z2 : (s.extract 2146 s.size).size = 32 * h := by rw [ByteArray.size_extract]; omega
  have v32 : All32 (cutL s 2 67) := cutL_32 s 2 67 (by omega)
  have p32 : All32 (cutL s 2146 h) := cutL_32 s 2146 h (by omega)
  have HRC := Lib.hid (fun W g h1 h2 hT => recover_yes W (msgB m) g 0 67 (cutL s 2 67) (msgB_size m) h1 h2 (cutL_length _ _ _) v32.small hT)
  rw [show digL (msgB m).data.toList = msgD m from rfl] at HRC
  have hfo := fun W a c h1 hT => fold_yes W (recoverB (msgD m) (cutL s 2 67)) leaf a c (cutL s 2146 h) (by rw [cutL_length]; exact hh) (by rw [cutL_length]; exact hs.lt) (by rw [recoverB_size]; omega) h1 p32.small hT
  rw [show foldAt (recoverB (msgD m) (cutL s 2 67)) leaf (cutL s 2146 h) (cutL s 2146 h).length = topB (msgD m) (cutL s 2 67) leaf (cutL s 2146 h) from rfl] at hfo
  rw [cutL_length] at hfo
  have HFO := Lib.hid hfo
  have HNM := Lib.hid (fun W hT => named_any h (topB (msgD m) (cutL s 2 67) leaf (cutL s 2146 h)) hh (topB_size _ _ _ _) W hT)
  rw [← show sigTop m s h leaf = namedB h (topB (msgD m) (cutL s 2 67) leaf (cutL s 2146 h)) from rfl] at HNM
  have HT := Lib.hid ht
  have HTA := Lib.hid (fun W b (hR : Rd W b s false) => take_yes 2 W b s hR (by omega) (by omega))
  rw [show ((2 : Nat) : Int) = 2 from rfl] at HTA
  have ht1 := fun W b (hR : Rd W b (s.extract 2 s.size) false) => take32 W b _ 67 hR (by omega) (by omega)
  rw [ev, er] at ht1
  rw [show ((67 : Nat) : Int) = 67 from rfl] at ht1
  have HT1 := Lib.hid ht1
  have ht2 := fun W b (hR : Rd W b (s.extract 2146 s.size) false) => take32 W b _ h hR (by omega) (by omega)
  rw [ep] at ht2
  have HT2 := Lib.hid ht2
  have hnot : ∀ (x : Bool) (w : World), (Op.unary .not (.bool x)).run Tryz.prog w = .ok (.bool (!x)) w := fun _ _ => rfl
  have hq : ((s.extract 2146 s.size).size : Int) / 32 = (h : Int) := by rw [z2]; omega
  clear hs hz ht1 ht2 hfo ev er ep z1 z2 v32 p32 hm ht
  generalize hV : cutL s 2 67 = V at *
  generalize hP : cutL s 2146 h = P at *
  generalize s.extract 2146 s.size = R2 at *
  generalize s.extract 2 s.size = R1 at *
  generalize sigTop m s h leaf = TOP at *
  clear hV hP
  go_enter Tryz.func39, Tryz.ntmps39
  go_wp2_with (first | (go_at_call 68; refine HL.out.mono ?_; rintro e w1 ⟨rfl, b1⟩) | (go_at_call 69; refine (read_any s _).mono ?_; rintro e w2 ⟨rfl, rfl⟩))
  refine (HTA.out _ _ (rd_new s w1)).mono ?_
  rintro e w3 ⟨rfl, r3, g3⟩
  have hs1 := b1.size
  have B3 := Lib.hid ((b1.alloc b1.size _).grown g3 (by simp; omega) (fun k hk => by cases hk; exact hs1))
  have HT3 := Lib.hid (HT1.out _ _ r3)
  have hl3 := r3.lt
  clear b1 r3 g3 HL HTA
  generalize w1.heap.size = rb at *
  go_wp2_with fail
  refine HT3.out.mono ?_
  rintro e w4 ⟨rfl, v4, r4, g4⟩
  have B4 := Lib.hid (B3.out.grown g4 B3.out.size (fun k hk => by cases hk; exact hs1))
  have HLF := Lib.hid (left_any w4 rb R2 false r4)
  have HT4 := Lib.hid (HT2.out _ _ r4)
  have hl4 := r4.lt
  have V4 := Lib.hid v4
  have hne : w3.heap.size ≠ rb := by omega
  clear v4 r4 g4 HT3
  generalize w3.heap.size = gv at *
  go_wp2_with (go_at_call 72; refine HLF.out.mono ?_; rintro e w5 ⟨rfl, rfl⟩)
  refine HT4.out.mono ?_
  rintro e w5 ⟨rfl, p5, r5, g5⟩
  have B5 := Lib.hid (B4.out.grown g5 B4.out.size (fun k hk => by cases hk; exact hs1))
  have V5 := Lib.hid (V4.out.grown g5 (fun e => hne (Option.some.inj e)))
  have P5 := Lib.hid p5
  have HM5 := Lib.hid (HMS.out w5 (HT.out.below B5.out))
  clear p5 r5 g5 HT4 HLF HMS
  generalize w4.heap.size = gp at *
  go_wp2_with fail
  refine HM5.out.mono ?_
  rintro e w6 ⟨rfl, b6⟩
  have B6 := Lib.hid (B5.out.trans (b6.mono B5.out.size))
  have V6 := V5.out.below b6 V5.out.lt
  have P6 := Lib.hid (P5.out.below b6 P5.out.lt)
  have HR6 := Lib.hid (HRC.out w6 gv (strRow_blk V6) V6.lt (HT.out.below B6.out))
  clear b6 V6 HM5 HRC
  go_wp2_with fail
  refine HR6.out.mono ?_
  rintro e w7 ⟨rfl, b7⟩
  have B7 := Lib.hid (B6.out.trans (b7.mono B6.out.size))
  have P7 := P6.out.below b7 P6.out.lt
  have HF7 := Lib.hid (HFO.out w7 _ h (strRow_blk P7) (HT.out.below B7.out))
  clear b7 P7 HR6 HFO
  go_wp2_with fail
  refine HF7.out.mono ?_
  rintro e w8 ⟨rfl, b8⟩
  have B8 := Lib.hid (B7.out.trans (b8.mono B7.out.size))
  have HN8 := Lib.hid (HNM.out w8 (HT.out.below B8.out))
  clear b8 HF7 HNM
  go_wp2_with fail
  refine HN8.out.mono ?_
  rintro e w9 ⟨rfl, b9⟩
  have B9 := Lib.hid (B8.out.trans (b9.mono B8.out.size))
  clear b9
  go_wp2
  go_ret
  exact ⟨rfl, B9.out⟩
end Go.Proofs.YtggfmnmopfdiaaaGreatDoor
