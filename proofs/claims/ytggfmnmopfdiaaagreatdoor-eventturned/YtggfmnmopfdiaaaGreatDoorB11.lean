/-
  Contracts of the document's keys: Both, Clash; plain: a signature's bytes by its parts.
-/
import Derived.Test.YtggfmnmopfdiaaaGreatDoorB10
import Derived.Test.YtggfmnmopfdiaaaGreatDoorB4
namespace Go.Pal
open Go.RowKit
theorem extract_split (s : ByteArray) (a b c : Nat) (h1 : a ≤ b) (h2 : b ≤ c) : s.extract a b ++ s.extract b c = s.extract a c := by
  rw [ByteArray.extract_append_extract]
  congr 1 <;> omega
theorem catB_cut (s : ByteArray) (o : Nat) : ∀ n, catB (cutL s o n) = s.extract o (o + 32 * n)
  | 0 => by
    have : s.extract o (o + 32 * 0) = ByteArray.empty := by
      rw [ByteArray.ext_iff]; simp
    rw [this]; rfl
  | n + 1 => by
    rw [cutL_succ, catB_snoc, catB_cut s o n, extract_split _ _ _ _ (by omega) (by omega)]
    congr 1
theorem sig_parts (s : ByteArray) (h : Nat) (hz : s.size = 2 + 32 * (67 + h)) : s = s.extract 0 2 ++ catB (cutL s 2 67) ++ catB (cutL s 2146 h) := by
  rw [catB_cut, catB_cut, extract_split _ _ _ _ (by omega) (by omega), extract_split _ _ _ _ (by omega) (by omega), show 2146 + 32 * h = s.size by omega, ByteArray.extract_zero_size]
/-- The bytes of which one is another one. -/
def turnB (s : ByteArray) (i : Nat) (b : UInt8) : ByteArray := s.extract 0 i ++ ⟨#[b]⟩ ++ s.extract (i + 1) s.size
theorem turnB_size (s : ByteArray) (i : Nat) (b : UInt8) (h : i < s.size) : (turnB s i b).size = s.size := by
  have e : ByteArray.size ⟨#[b]⟩ = 1 := rfl
  rw [turnB, ByteArray.size_append, ByteArray.size_append, ByteArray.size_extract, ByteArray.size_extract, e]; omega
theorem turnB_head (s : ByteArray) (i : Nat) (b : UInt8) (h : i < s.size) (h2 : 2 ≤ i) : (turnB s i b).extract 0 2 = s.extract 0 2 := by
  have e : turnB s i b = s.extract 0 2 ++ (s.extract 2 i ++ (⟨#[b]⟩ ++ s.extract (i + 1) s.size)) := by
    rw [turnB, ← extract_split s 0 2 i (by omega) h2]
    simp only [ByteArray.append_assoc]
  rw [e]
  have hz : (s.extract 0 2).size = 2 := by rw [ByteArray.size_extract]; omega
  have := extract_mid ByteArray.empty (s.extract 0 2) (s.extract 2 i ++ (⟨#[b]⟩ ++ s.extract (i + 1) s.size)) 0 2 rfl (by rw [hz]; rfl)
  rw [ByteArray.empty_append] at this
  exact this
/-- Do two unlike texts have one digest? -/
def ClashV (l : List ByteArray) (v : Value) : Prop :=
  ∃ b : Bool, v = .bool b ∧ ((∃ i j, j < i ∧ i < l.length ∧ l.getD i ByteArray.empty ≠ l.getD j ByteArray.empty ∧ shaB (l.getD i ByteArray.empty) = shaB (l.getD j ByteArray.empty)) → b = true)
theorem mem_at (l m : List ByteArray) (a b : ByteArray) (ha : a ∈ l) (hb : b ∈ m) : ∃ i j, j < i ∧ i < (l ++ m).length ∧ (l ++ m).getD i ByteArray.empty = b ∧ (l ++ m).getD j ByteArray.empty = a := by
  obtain ⟨j, hj, rfl⟩ := List.getElem_of_mem ha
  obtain ⟨i, hi, rfl⟩ := List.getElem_of_mem hb
  refine ⟨l.length + i, j, by omega, by rw [List.length_append]; omega, ?_, ?_⟩
  · rw [List.getD_eq_getElem?_getD, List.getElem?_append_right (by omega), show l.length + i - l.length = i by omega, List.getElem?_eq_getElem hi]; rfl
  · rw [List.getD_eq_getElem?_getD, List.getElem?_append_left hj, List.getElem?_eq_getElem hj]; rfl
theorem clash_ex (l m : List ByteArray) (h : ∃ a b, a ∈ l ∧ b ∈ m ∧ a ≠ b ∧ shaB a = shaB b) : ∃ i j, j < i ∧ i < (l ++ m).length ∧ (l ++ m).getD i ByteArray.empty ≠ (l ++ m).getD j ByteArray.empty ∧ shaB ((l ++ m).getD i ByteArray.empty) = shaB ((l ++ m).getD j ByteArray.empty) := by
  obtain ⟨a, b, ha, hb, hne, he⟩ := h
  obtain ⟨i, j, h1, h2, h3, h4⟩ := mem_at l m a b ha hb
  exact ⟨i, j, h1, h2, by rw [h3, h4]; exact hne.symm, by rw [h3, h4, he]⟩
theorem getD_all (l : List ByteArray) (B : Nat) (h : ∀ p ∈ l, p.size ≤ B) (i : Nat) : (l.getD i ByteArray.empty).size ≤ B := by
  by_cases hi : i < l.length
  · rw [List.getD_eq_getElem?_getD, List.getElem?_eq_getElem hi]; exact h _ (List.getElem_mem hi)
  · rw [List.getD_eq_getElem?_getD, List.getElem?_eq_none (by omega)]; exact Nat.zero_le _
end Go.Pal
namespace Go.Proofs.YtggfmnmopfdiaaaGreatDoor
open Go.RowKit Go.Pal

theorem roadV_le (m : ByteArray) (vs : List ByteArray) (leaf : Nat) (ps : List ByteArray) (hm : m.size ≤ 1000) (hv : vs.length = 67) (v32 : All32 vs) (p32 : All32 ps) : ∀ p ∈ roadV m vs leaf ps, p.size ≤ 9000000 := by
  have hs : ∀ i, (vs.getD i ByteArray.empty).size ≤ 1000 := fun i => by
    by_cases hi : i < vs.length
    · rw [v32 i hi]; omega
    · rw [List.getD_eq_getElem?_getD, List.getElem?_eq_none (by omega)]; exact Nat.zero_le _
  intro p hp
  rcases List.mem_append.1 hp with hp | hp
  · rcases List.mem_append.1 hp with hp | hp
    · rcases List.mem_append.1 hp with h | h
      · obtain ⟨k, _, h2⟩ := List.mem_flatMap.1 h
        obtain ⟨j, _, rfl⟩ := List.mem_map.1 h2
        have := chainB_le (k : Int) (vs.getD k ByteArray.empty) 1000 (by omega) (hs k) j
        show (inputL 1 _).toArray.size ≤ _
        rw [List.size_toArray, inputL_length]
        simp only [totL, List.map_cons, List.map_nil, List.sum_cons, List.sum_nil, be_size]
        omega
      · rw [List.mem_singleton.1 h]
        show (inputL 3 _).toArray.size ≤ _
        rw [List.size_toArray, inputL_length]
        have := totL_le (walkL vs fun k => 15 - (msgD m).getD k 0) 1000 (walkL_le _ _ 1000 (by omega) hs)
        rw [walkL_length, hv] at this; omega
    · obtain ⟨k, _, rfl⟩ := List.mem_map.1 hp
      exact stepIn_size _ _ _ (by rw [recoverB_size]; omega) p32.small k
  · simp only [List.mem_cons, List.not_mem_nil, or_false] at hp
    rcases hp with rfl | rfl
    · show (inputL 5 _).toArray.size ≤ _
      rw [List.size_toArray, inputL_length]
      have := topB_size (msgD m) vs leaf ps
      simp only [totL, List.map_cons, List.map_nil, List.sum_cons, List.sum_nil, be_size]
      omega
    · show (inputL 6 _).toArray.size ≤ _
      rw [List.size_toArray, inputL_length]
      simp only [totL, List.map_cons, List.map_nil, List.sum_cons, List.sum_nil]
      omega
theorem roadV_length (m : ByteArray) (vs : List ByteArray) (leaf : Nat) (ps : List ByteArray) (hp : ps.length ≤ 4) : (roadV m vs leaf ps).length ≤ 1100 ∧ 0 < (roadV m vs leaf ps).length := by
  have h1 := roadR_length (msgD m) vs 67
  have h2 := roadTo_length (recoverB (msgD m) vs) leaf ps ps.length
  unfold roadV
  simp only [List.length_append, List.length_cons, List.length_nil]
  omega

set_option maxHeartbeats 1000000 in
set_option maxRecDepth 100000 in
theorem both_any (w : World) (g1 o1 c1 g2 o2 c2 : Nat) (l1 l2 : List ByteArray) (h1 : 0 < l1.length) (h2 : 0 < l2.length) (z1 : l1.length ≤ 1100) (z2 : l2.length ≤ 1100) (r1 : StrRow w (some ⟨g1, o1, none⟩) l1) (r2 : StrRow w (some ⟨g2, o2, none⟩) l2) :
    Calls Tryz.prog 18 #[.slice (some ⟨g1, o1, none⟩) l1.length c1, .slice (some ⟨g2, o2, none⟩) l2.length c2] w fun e w' => (∃ g c, e = .returned (.slice (some ⟨g, 0, none⟩) (l1.length + l2.length) c) ∧ StrRow w' (some ⟨g, 0, none⟩) (l1 ++ l2)) ∧ Below w.heap.size w w' := by
  obtain ⟨i0, hi0, hz0, hz1, hz2⟩ := info_parts (show (Tryz.prog.info? 9).map (fun i => (i.zero, i.size, i.bytes)) = some (some (.string ⟨#[]⟩), 1, 16) by kernel_rfl)
  have HNW := Lib.hid (strRow_news r1)
  have HNW2 := Lib.hid (fun (W : World) (hb : Below w.heap.size w W) => strRow_news (r2.below hb))
  have HC1 : Hid (0 + l1.length ≤ maxLen) := Lib.hid (by unfold maxLen; omega)
  have HC2 : Hid ((0 + l1.length) * 16 ≤ 140737488355328) := Lib.hid (by omega)
  have HC3 : Hid (l1.length + l2.length ≤ maxLen) := Lib.hid (by unfold maxLen; omega)
  have HC4 : Hid ((l1.length + l2.length) * 16 ≤ 140737488355328) := Lib.hid (by omega)
  clear r1 r2
  go_enter Tryz.func18, Tryz.ntmps18
  go_wp2_with (at_builtin; refine wpList_append_lies _ rfl _ _ 22 rfl w.heap.size 9 i0 (.string ⟨#[]⟩) 1 16 Tryz.underlying22 hi0 hz0 hz1 hz2 rfl (by omega) _ 0 [] rfl (World.ownsRow_nil _ _ _ _) ⟨g1, o1, none⟩ l1.length _ (l1.map strV) rfl (by simp) HNW.out (strs_one l1) h1 HC1.out HC2.out (Nat.le_refl _) w.heap.size rfl ?_)
  intro g3 cap3 w3 hown3 hg3 _ _
  have B3 := Lib.hid ((Below.refl w.heap.size w).grown hg3 (Nat.le_refl _) (fun q hq => by simp [Value.ownBlock] at hq))
  have O3 := Lib.hid (show w3.ownsRow w.heap.size 9 1 (.slice (some ⟨g3, 0, none⟩) l1.length cap3) l1.length (l1.map strV) from hown3)
  have NW3 := Lib.hid (HNW2.out w3 B3.out)
  clear hown3 hg3
  go_wp2_with (at_builtin; refine wpList_append_lies _ rfl _ _ 22 rfl w.heap.size 9 i0 (.string ⟨#[]⟩) 1 16 Tryz.underlying22 hi0 hz0 hz1 hz2 rfl (by omega) _ l1.length _ rfl O3.out ⟨g2, o2, none⟩ l2.length _ (l2.map strV) rfl (by simp) NW3.out (strs_one l2) h2 HC3.out HC4.out B3.out.size w3.heap.size rfl ?_)
  intro g4 cap4 w4 hown4 hg4 _ _
  have B4 := Lib.hid (B3.out.grown hg4 B3.out.size (fun q hq => (O3.out.lt q hq).1))
  have o4 : w4.ownsRow w.heap.size 9 1 (.slice (some ⟨g4, 0, none⟩) (l1.length + l2.length) cap4) (l1.length + l2.length) ((l1 ++ l2).map strV) := by rw [List.map_append]; exact hown4
  have hrow : StrRow w4 (some ⟨g4, 0, none⟩) (l1 ++ l2) := by
    obtain ⟨a5, c5, he5, hr5⟩ := own_strs o4 (by rw [List.length_append])
    have : a5 = some ⟨g4, 0, none⟩ := by simp at he5; exact he5.1.symm
    rw [← this]; exact hr5
  have HR := Lib.hid hrow
  clear hown4 hg4 o4 hrow
  go_wp2
  go_ret
  exact ⟨⟨g4, cap4, rfl, HR.out⟩, B4.out⟩

set_option maxHeartbeats 2000000 in
set_option maxRecDepth 100000 in
theorem clash5 (w : World) (b off cap : Nat) (l : List ByteArray) (hl : l.length ≤ 5000) (hr : StrRow w (some ⟨b, off, none⟩) l) (hsz : ∀ i, (l.getD i ByteArray.empty).size ≤ 9000000) :
    Calls Tryz.prog 45 #[.slice (some ⟨b, off, none⟩) l.length cap] w fun e w' => (∃ v, e = .returned v ∧ ClashV l v) ∧ Below w.heap.size w w' := by
  have hm := makeS l.length (by omega) w
  have HR := Lib.hid hr
  have HSZ := Lib.hid hsz
  have hUl : ((l.map shaB).map strV).length = l.length := by simp
  have hgU : ∀ k, k < l.length → ((l.map shaB).map strV)[k]? = some (.string (shaB (l.getD k ByteArray.empty))) := by
    intro k hk
    simp [hk, strV]
  obtain ⟨U, hU⟩ : ∃ U, U = (l.map shaB).map strV := ⟨_, rfl⟩
  rw [← hU] at hUl hgU
  obtain ⟨Z, hZ⟩ : ∃ Z, Z = List.replicate l.length (Value.string ⟨#[]⟩) := ⟨_, rfl⟩
  rw [← hZ] at hm
  have HUL := Lib.hid hUl
  have HGU := Lib.hid hgU
  have HZL := Lib.hid (show Z.length = l.length by rw [hZ]; simp)
  have HZG := Lib.hid (fun k (hk : k < l.length) => (show Z[k]? = some (.string ⟨#[]⟩) by rw [hZ, List.getElem?_replicate, if_pos hk]))
  clear hr hsz hUl hgU hU hZ
  go_enter Tryz.func45, Tryz.ntmps45
  go_wp2
  go_loopw [4] (fun i wr => ∃ k : Nat, k ≤ l.length ∧ i = .int .i64 k ∧ Blk wr w.heap.size 9 (partL U Z k) ∧ Below w.heap.size w wr) (fun i _ => l.length - (intOf i).toNat)
  case atStart => exact ⟨0, by omega, rfl, by rw [partL_zero]; exact Blk.new' _ _ _ rfl, (Below.refl _ _).alloc (Nat.le_refl _) _⟩
  case round =>
    clear hm
    obtain ⟨k, hk, rfl, hB, hb⟩ := hrel
    have hUl := HUL.out
    have hZl := HZL.out
    by_cases hlt : k < l.length
    · have d0 := (hB.cell k).trans ((partL_get _ _ k (by omega)).trans (HZG.out k hlt))
      have f0 := hB.frozen k
      have hlt2 := hB.lt
      have ck := strRow_cell (HR.out.below hb) k hlt
      have hgk := HGU.out k hlt
      have hzk := HSZ.out k
      generalize l.getD k ByteArray.empty = y at *
      have hset : ∀ w' : World, Below wr.heap.size wr w' → Blk (w'.setCell ⟨w.heap.size, k, none⟩ (.string (shaB y))) w.heap.size 9 (partL U Z (k + 1)) := by
        intro w' hb'
        have h2 := (hB.below hb' hlt2).set k (U[k]'(by omega))
        rw [partL_set _ _ k (by omega) (by omega), (List.getElem_eq_iff _).2 hgk] at h2
        exact h2
      have hbset : ∀ (z : ByteArray) (w' : World), Below wr.heap.size wr w' → Below w.heap.size w (w'.setCell ⟨w.heap.size, k, none⟩ (.string z)) := fun z w' hb' => (hb.trans (hb'.mono hb.size)).setCell (p := ⟨w.heap.size, k, none⟩) (Nat.le_refl _) _
      have HSET := Lib.hid hset
      have HBS := Lib.hid hbset
      have HRS := Lib.hid (refsum_any wr y (by omega))
      generalize shaB y = z at *
      clear hset hbset hgk hB hb hUl hZl
      go_wp2_with fail
      refine HRS.out.mono ?_
      rintro e w1 ⟨rfl, b1⟩
      have d1 := (b1.cell (p := ⟨w.heap.size, k, none⟩) hlt2).trans d0
      have f1 := (b1.frozen (p := ⟨w.heap.size, k, none⟩) hlt2).trans f0
      have B1 := Lib.hid b1
      clear b1
      go_wp2
      go_roundw
      case rel => exact ⟨k + 1, by omega, by go_num, HSET.out _ B1.out, HBS.out _ _ B1.out⟩
      case measure => simp [intOf]; omega
    · obtain rfl : k = l.length := by omega
      have hall := partL_all U Z (by omega)
      rw [hUl] at hall
      rw [hall] at hB
      have HBL := Lib.hid hB
      have HB := Lib.hid hb
      have HRW := Lib.hid (HR.out.below hb)
      clear hB hb hall hUl hZl hlt hk
      rename World => ws
      go_wp2
      go_loopw [5] (fun vi wr => ∃ i : Nat, i ≤ l.length ∧ vi = .int .i64 i ∧ (∀ p q, q < p → p < i → ¬ (l.getD p ByteArray.empty ≠ l.getD q ByteArray.empty ∧ shaB (l.getD p ByteArray.empty) = shaB (l.getD q ByteArray.empty))) ∧ Same ws wr) (fun vi _ => l.length - (intOf vi).toNat)
      case atStart => exact ⟨0, by omega, rfl, fun p q _ h => by omega, Same.refl _⟩
      case round =>
        obtain ⟨i, hi, rfl, hall, hs⟩ := hrel
        have HALL := Lib.hid hall
        have HS0 := Lib.hid hs
        clear hall hs
        by_cases hil : i < l.length
        · rename World => wi
          go_wp2
          go_loopw [6] (fun vk wr => ∃ k : Nat, k ≤ i ∧ vk = .int .i64 k ∧ (∀ q, q < k → ¬ (l.getD i ByteArray.empty ≠ l.getD q ByteArray.empty ∧ shaB (l.getD i ByteArray.empty) = shaB (l.getD q ByteArray.empty))) ∧ Same ws wr) (fun vk _ => i - (intOf vk).toNat)
          case atStart => exact ⟨0, by omega, rfl, fun q h => by omega, HS0.out⟩
          case round =>
            obtain ⟨k, hk, rfl, hin, hs⟩ := hrel
            have HIN := Lib.hid hin
            have HS := Lib.hid hs
            by_cases hki : k < i
            · have c1 := (hs.cell _).trans ((HBL.out.cell i).trans (HGU.out i hil))
              have c2 := (hs.cell _).trans ((HBL.out.cell k).trans (HGU.out k (by omega)))
              have c3 := (hs.cell _).trans (strRow_cell HRW.out i hil)
              have c4 := (hs.cell _).trans (strRow_cell HRW.out k (by omega))
              have hkl : k < l.length := by omega
              clear hin hs HBL HRW
              generalize hX : l.getD i ByteArray.empty = X at *
              generalize hY : l.getD k ByteArray.empty = Y at *
              generalize hDX : shaB X = DX at *
              generalize hDY : shaB Y = DY at *
              have HX := Lib.hid hX
              have HY := Lib.hid hY
              have HDX := Lib.hid hDX
              have HDY := Lib.hid hDY
              clear hX hY hDX hDY
              have hnext : ∀ (q : Nat), q < k + 1 → (X = Y ∨ DX ≠ DY) → ¬ (X ≠ l.getD q ByteArray.empty ∧ DX = shaB (l.getD q ByteArray.empty)) := by
                intro q hq hor hc
                by_cases hqk : q = k
                · subst hqk
                  rw [HY.out, HDY.out] at hc
                  rcases hor with h | h
                  · exact hc.1 h
                  · exact h hc.2
                · exact HIN.out q (by omega) hc
              have HNX := Lib.hid hnext
              clear hnext
              by_cases hd : DX = DY
              · by_cases hxy : X = Y
                · subst hd hxy
                  go_wp2
                  go_quiet (fail)
                  go_wp2
                  go_roundw
                  case rel => exact ⟨k + 1, by omega, by go_num, fun q hq => HNX.out q hq (by first | exact .inl rfl | simp), HS.out.drewN _⟩
                  case measure => simp [intOf]; omega
                · subst hd
                  have hn := beqF hxy
                  go_wp2
                  go_quiet (fail)
                  go_wp2
                  go_ret
                  exact ⟨⟨_, rfl, true, rfl, fun _ => rfl⟩, HB.out.trans ((HS.out.drewN _).below _)⟩
              · have hn := beqF hd
                have HDD := Lib.hid hd
                clear hd
                go_wp2
                go_quiet (fail)
                go_wp2
                go_roundw
                case rel => exact ⟨k + 1, by omega, by go_num, fun q hq => HNX.out q hq (by first | exact .inr HDD.out | (simp; exact HDD.out)), HS.out.drewN _⟩
                case measure => simp [intOf]; omega
            · obtain rfl : k = i := by omega
              clear hin hs hki hk
              go_wp2
              go_roundw
              case rel =>
                refine ⟨k + 1, by omega, by go_num, fun p q h1 h2 => ?_, HS.out⟩
                by_cases hp : p = k
                · subst hp; exact HIN.out q h1
                · exact HALL.out p q h1 (by omega)
              case measure => simp [intOf]; omega
        · obtain rfl : i = l.length := by omega
          clear hil hi
          go_wp2
          go_ret
          exact ⟨⟨_, rfl, false, rfl, fun ⟨p, q, h1, h2, h3⟩ => absurd h3 (HALL.out p q h1 h2)⟩, HB.out.trans (HS0.out.below _)⟩
end Go.Proofs.YtggfmnmopfdiaaaGreatDoor
