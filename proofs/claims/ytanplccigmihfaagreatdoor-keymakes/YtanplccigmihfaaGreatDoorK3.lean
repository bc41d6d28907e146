/-
  Contracts of key: grow, by sync.Once.
-/
import Derived.Test.YtanplccigmihfaaGreatDoorK2
namespace Go.Proofs.YtanplccigmihfaaGreatDoor
open Go.RowKit Go.Pal
/-- The tables stay, whatever is written into block b or made anew. -/
def TabsK (w : World) (b : Nat) : Prop := ∀ W, w.grownBy W (some b) → Tabs W
theorem TabsK.now {w : World} {b : Nat} (h : TabsK w b) : Tabs w := h w ⟨rfl, rfl, rfl, Nat.le_refl _, fun _ _ _ => rfl⟩
theorem TabsK.on {w w' : World} {b : Nat} (h : TabsK w b) (hg : w.grownBy w' (some b)) : TabsK w' b := fun W hW => h W (Lib.grownBy_trans hg hW)
theorem TabsK.of {w0 w : World} {b : Nat} (ht : Tabs w0) (hb : Below w0.heap.size w0 w) (hbb : w0.heap.size ≤ b) : TabsK w b := fun _ hW =>
  ht.below (hb.grown hW hb.size (fun k hk => by cases hk; exact hbb))
theorem grownBy_newSet {w w' : World} {row : Option Nat} (h : w.grownBy w' row) {g : Nat} (hg : w.heap.size ≤ g) (i : Nat) (v : Value) : w.grownBy (w'.setCell ⟨g, i, none⟩ v) row :=
  ⟨h.os, h.tape, h.output, Nat.le_trans h.size (Nat.le_of_eq (World.size_setCell _ _ _).symm), fun k hk hne => (Below.heap_setCell w' ⟨g, i, none⟩ v k (by show k ≠ g; omega)).trans (h.block k hk hne)⟩
theorem grownBy_set0 (w : World) (b i : Nat) (v : Value) : w.grownBy (w.setCell ⟨b, i, none⟩ v) (some b) := Lib.grownBy_setB ⟨rfl, rfl, rfl, Nat.le_refl _, fun _ _ _ => rfl⟩ i v
/-- A key's cells. -/
def keyCells (seed : ByteArray) (h : Nat) (x2 x3 x4 x5 x6 x7 : Value) : List Value := [.string seed, .int .i64 (h : Int), x2, x3, x4, x5, x6, x7]

set_option maxHeartbeats 2000000 in
set_option maxRecDepth 100000 in
theorem grow_any (w : World) (b : Nat) (seed : ByteArray) (h : Nat) (x2 x3 x4 x5 x6 x7 : Value) (hh : h ≤ 4) (hs : seed.size ≤ 1000000) (ht : TabsK w b)
    (hK : Blk w b 69 (keyCells seed h x2 x3 x4 x5 x6 x7)) :
    Calls Tryz.prog 31 #[.pointer (some ⟨b, 0, none⟩)] w fun e w' => e = .returned (.tuple #[]) ∧
      Blk w' b 69 (keyCells seed h x2 x3 x4 x5 (.slice (some ⟨w.heap.size, 0, none⟩) (2 ^ h) (2 ^ h)) (.string (keyB seed h))) ∧
      Blk w' w.heap.size 9 ((leavesL seed h).map strV) ∧ w.grownBy w' (some b) := by
  have hn16 := pow_le16 h hh
  have hm := makeS (2 ^ h) (by omega) w
  have HC := Lib.hid (fun W => count_any h hh W)
  have HPU := Lib.hid (fun W (k : Nat) (hk : k < 2 ^ h) hT => public_yes W seed k (by omega) hs hT)
  have HG := Lib.hid (fun k hk => leavesL_get seed h k hk)
  have HLU := Lib.hid (leavesL_length seed h)
  have hrt := fun W a c h1 hT => root_yes W a c (leavesL seed h) h hh (leavesL_length _ _) h1 (leaves_small _ _) hT
  rw [leavesL_length] at hrt
  have HRT := Lib.hid hrt
  have HNM := Lib.hid (fun W hT => named_any h (rootB seed h) hh (by rw [rootB_size]; omega) W hT)
  have HKE := Lib.hid (show keyB seed h = namedB h (rootB seed h) from rfl)
  have HRE := Lib.hid (show rootB seed h = (rowN h (leavesL seed h)).getD 0 ByteArray.empty from rfl)
  have HT := Lib.hid ht
  have hbl := hK.lt
  have c1 : w.cell? ⟨b, 1, none⟩ = some (.int .i64 (h : Int)) := hK.cell 1
  have HK := Lib.hid hK
  clear hrt ht
  generalize leavesL seed h = U at *
  obtain ⟨n, hn⟩ : ∃ n, n = 2 ^ h := ⟨_, rfl⟩
  rw [← hn] at hm HC HPU HG HLU HRT hn16 ⊢
  clear hn hs
  have hUl : (U.map strV).length = n := by rw [List.length_map, HLU.out]
  have HUL := Lib.hid hUl
  obtain ⟨Z, hZ⟩ : ∃ Z, Z = List.replicate n (Value.string ⟨#[]⟩) := ⟨_, rfl⟩
  rw [← hZ] at hm
  have HZL := Lib.hid (show Z.length = n by rw [hZ]; simp)
  have HZG := Lib.hid (fun k (hk : k < n) => (show Z[k]? = some (.string ⟨#[]⟩) by rw [hZ, List.getElem?_replicate, if_pos hk]))
  clear hZ
  have c6 : w.cell? ⟨b, 6, none⟩ = some x6 := hK.cell 6
  have f6 : w.frozen? ⟨b, 6, none⟩ = false := hK.frozen 6
  have hB1 : Blk ((w.setCell ⟨b, 6, none⟩ (.slice (some ⟨w.heap.size, 0, none⟩) n n)).alloc (.cells Z.toArray 9)) b 69 (keyCells seed h x2 x3 x4 x5 (.slice (some ⟨w.heap.size, 0, none⟩) n n) x7) := (hK.set 6 (.slice (some ⟨w.heap.size, 0, none⟩) n n)).alloc _
  have HB1 := Lib.hid hB1
  clear hB1 hUl hK
  go_enter Tryz.func31, Tryz.ntmps31
  go_wp2_with (go_at_call 27; refine (HC.out _).mono ?_; rintro e w' ⟨rfl, rfl⟩)
  go_loopw [19] (fun i wr => ∃ k : Nat, k ≤ n ∧ i = .int .i64 k ∧ Blk wr w.heap.size 9 (partL (U.map strV) Z k) ∧ Blk wr b 69 (keyCells seed h x2 x3 x4 x5 (.slice (some ⟨w.heap.size, 0, none⟩) n n) x7) ∧ w.grownBy wr (some b)) (fun i _ => n - (intOf i).toNat)
  case atStart => exact ⟨0, by omega, rfl, by rw [partL_zero]; exact Blk.new' _ _ _ (by simp), HB1.out, Lib.grownBy_allocR (grownBy_set0 w b 6 _) _⟩
  case round =>
    clear hm c1 c6 f6
    obtain ⟨k, hk, rfl, hB, hK, hg⟩ := hrel
    have hUl := HUL.out
    have hlt2 := hB.lt
    have hb2 := hK.lt
    have hne : w.heap.size ≠ b := by omega
    by_cases hlt : k < n
    · have d0 := (hB.cell k).trans ((partL_get _ _ k (by omega)).trans (HZG.out k hlt))
      have f0 := hB.frozen k
      have hgk := HG.out k hlt
      have c0 : wr.cell? ⟨b, 0, none⟩ = some (.string seed) := hK.cell 0
      have c6 : wr.cell? ⟨b, 6, none⟩ = some (.slice (some ⟨w.heap.size, 0, none⟩) n n) := hK.cell 6
      have hset : ∀ w' : World, Below wr.heap.size wr w' → Blk (w'.setCell ⟨w.heap.size, k, none⟩ (.string (publicB seed k))) w.heap.size 9 (partL (U.map strV) Z (k + 1)) := by
        intro w' hb'
        have h2 := (hB.below hb' hlt2).set k ((U.map strV)[k]'(by omega))
        rw [partL_set _ _ k (by omega) (by have := HZL.out; omega), (List.getElem_eq_iff _).2 (strs_get? U k (by rw [HLU.out]; exact hlt)), hgk] at h2
        exact h2
      have hkset : ∀ (z : ByteArray) (w' : World), Below wr.heap.size wr w' → Blk (w'.setCell ⟨w.heap.size, k, none⟩ (.string z)) b 69 (keyCells seed h x2 x3 x4 x5 (.slice (some ⟨w.heap.size, 0, none⟩) n n) x7) :=
        fun z w' hb' => (hK.below hb' hb2).other (p := ⟨w.heap.size, k, none⟩) (fun e => hne e.symm) _
      have hgset : ∀ (z : ByteArray) (w' : World), Below wr.heap.size wr w' → w.grownBy (w'.setCell ⟨w.heap.size, k, none⟩ (.string z)) (some b) :=
        fun z w' hb' => grownBy_newSet (Lib.grownBy_below hg hb') (Nat.le_refl _) k _
      have HPK := Lib.hid (HPU.out wr.drew k hlt ((HT.out.on hg).now.below ((Below.refl _ _).drew)))
      have HSET := Lib.hid hset
      have HKS := Lib.hid hkset
      have HGS := Lib.hid hgset
      have hk0 : (0 : Int) ≤ (k : Int) := by omega
      have hk1 : (k : Int) < (n : Int) := by omega
      generalize publicB seed k = z at *
      clear hset hkset hgset hgk hB hK hg hUl HG HPU
      go_wp2
      go_region_with (go_at_call 65; refine HPK.out.mono ?_; rintro e w1 ⟨rfl, b1⟩; have d1 := (b1.cell (p := ⟨w.heap.size, k, none⟩) hlt2).trans d0; have f1 := (b1.frozen (p := ⟨w.heap.size, k, none⟩) hlt2).trans f0; have g6 := (b1.cell (p := ⟨b, 6, none⟩) hb2).trans c6)
      all_goals
        go_wp2
        go_roundw
        case rel => exact ⟨k + 1, by omega, by go_num, HSET.out _ (((Below.refl wr.heap.size wr).drew).trans b1), HKS.out _ _ (((Below.refl wr.heap.size wr).drew).trans b1), HGS.out _ _ (((Below.refl wr.heap.size wr).drew).trans b1)⟩
        case measure => simp [intOf]; omega
    · obtain rfl : k = n := by omega
      have hall := partL_all (U.map strV) Z (by rw [hUl, HZL.out])
      rw [hUl] at hall
      rw [hall] at hB
      have HSR := Lib.hid hB
      have HKB := Lib.hid hK
      have HGB := Lib.hid hg
      have c6 : wr.cell? ⟨b, 6, none⟩ = some (.slice (some ⟨w.heap.size, 0, none⟩) k k) := hK.cell 6
      have c1 : wr.cell? ⟨b, 1, none⟩ = some (.int .i64 (h : Int)) := hK.cell 1
      have c7 : wr.cell? ⟨b, 7, none⟩ = some x7 := hK.cell 7
      have f7 : wr.frozen? ⟨b, 7, none⟩ = false := hK.frozen 7
      have HR1 := Lib.hid (HRT.out wr _ k (strRow_blk hB) (HT.out.on hg).now)
      clear hB hK hg hall hlt hk hUl
      go_wp2_with fail
      refine HR1.out.mono ?_
      rintro e w1 ⟨rfl, b1⟩
      have c12 := (b1.cell (p := ⟨b, 1, none⟩) hb2).trans c1
      have c72 := (b1.cell (p := ⟨b, 7, none⟩) hb2).trans c7
      have f72 := (b1.frozen (p := ⟨b, 7, none⟩) hb2).trans f7
      have HN1 := Lib.hid (HNM.out w1 ((HT.out.on HGB.out).now.below b1))
      have B1 := Lib.hid b1
      have hb3 : b < w1.heap.size := Nat.lt_of_lt_of_le hb2 b1.size
      rw [← HRE.out]
      clear b1 c6 c1 c7 f7
      go_wp2_with fail
      refine HN1.out.mono ?_
      rintro e w2 ⟨rfl, b2⟩
      have c73 := (b2.cell (p := ⟨b, 7, none⟩) hb3).trans c72
      have f73 := (b2.frozen (p := ⟨b, 7, none⟩) hb3).trans f72
      rw [← HKE.out]
      have B2 := Lib.hid (B1.out.trans (b2.mono B1.out.size))
      clear b2 c72 f72 c12
      go_wp2
      go_end0
      refine ⟨rfl, ?_, ?_, ?_⟩
      · exact (HKB.out.below B2.out hb2).set 7 _
      · exact (HSR.out.below B2.out hlt2).other (p := ⟨b, 7, none⟩) hne _
      · exact Lib.grownBy_setB (Lib.grownBy_below HGB.out B2.out) 7 _
end Go.Proofs.YtanplccigmihfaaGreatDoor
