/-
  Contract of the document's below: is (x / 2^32) to the power at most n?
-/
import Derived.Test.YtanplccigmihfaaDoorP3
import Derived.Test.YtanplccigmihfaaDoorOwn
namespace Go.Proofs.YtanplccigmihfaaDoor
open Go.RowKit Go.Pal

/-- One piece behind a full row of them. -/
theorem wpList_appendU {P : Program} (w : World) {ops : Array Oper} {rest : List Oper} {o : Oper} {a : Act} {Q : Exit → Act → World → Prop} (hgd : o.guard = none) (s x : Operand) (t : TypeId)
    (ho : o.op = .call { callee := .builtin .append, args := #[s, x], argTypes := #[t, t] }) (e : TypeId) (i : TypeInfo) (ht : P.underlying t = some (.slice e)) (hi : P.info? e = some i) (hz : i.zero = some (.int .u64 0)) (hs : i.size = 1) (hby : i.bytes = 8)
    (g h c n : Nat) (L : List Nat) (hv : a.eval s = .slice (some ⟨g, 0, none⟩) L.length L.length) (hL : Blk w g e (L.map dV)) (hx : a.eval x = .slice (some ⟨h, 0, none⟩) 1 c) (hN : Blk w h e ([n].map dV)) (hl : L.length ≤ 1000)
    (hK : ∀ g' cap w', L.length + 1 ≤ cap → w.heap.size ≤ g' → g' < w'.heap.size → (∀ j, j < L.length + 1 → w'.cell? ⟨g', j, none⟩ = some (.int .u64 (dig (L ++ [n]) j : Int))) → Below w.heap.size w w' → wpList P ops Q rest (a.put o.dst (.slice (some ⟨g', 0, none⟩) (L.length + 1) cap)) w') : wpList P ops Q (o :: rest) a w := by
  obtain ⟨v', w', hr, h1, h2⟩ := run_append_arg_grows (P := P) w t o.type e i (.int .u64 0) 1 8 ht hi hz hs hby rfl (by omega) ⟨g, 0, none⟩ L.length L.length (L.map dV) (by simp)
    (fun j u hj => by rw [Addr.add_lit, Nat.zero_add, hL.cell j, hj]) ⟨h, 0, none⟩ 1 c ([n].map dV) rfl (fun j u hj => by rw [Addr.add_lit, Nat.zero_add, hN.cell j, hj]) (by omega) (by unfold maxLen; omega) (by omega)
  rcases h1.2 with ⟨_, h0⟩ | ⟨g', cap, cur, rfl, hg, hh, hc, _, hsz, hxs⟩
  · omega
  · have hlt : g' < w'.heap.size := (Array.getElem?_eq_some_iff.1 hh).1
    refine Lib.wpList_append_run w hgd s x t t ho _ _ hv hx _ w' hr (hK g' cap w' hc hg hlt (fun j hj => ?_) ⟨h2.os, h2.tape, h2.output, h2.size, fun k hk => h2.block k hk (by simp)⟩)
    rw [← List.map_append] at hxs
    have e1 : w'.cell? ⟨g', j, none⟩ = cur[j]? := by simp [World.cell?, hh]
    rw [e1, ← Array.getElem?_toList]
    have e2 : cur.toList[j]? = (cur.toList.take ((L.length + 1) * 1))[j]? := by rw [List.getElem?_take_of_lt (by omega)]
    rw [e2, hxs]
    exact dig_map (L ++ [n]) j (by simp; omega)

theorem digs_one (j : Nat) : dig [1] j < 65536 := by
  unfold dig
  rcases j with _ | j <;> simp

set_option maxHeartbeats 1000000 in
set_option maxRecDepth 100000 in
theorem below_any (x b n : Nat) (hx : x < 68719476737) (hb : b ≤ 3) (hn : n ≤ 1000) (w : World) :
    Calls Tryd.prog 26 #[.int .u64 (x : Int), .int .i64 (b : Int), .int .i64 (n : Int)] w fun e w' => e = .returned (.bool (decide (x ^ b ≤ n * 65536 ^ (2 * b)))) ∧ Below w.heap.size w w' := by
  obtain ⟨i0, hi, hz0, hz1, hz2⟩ := info_parts (show (Tryd.prog.info? 49).map (fun i => (i.zero, i.size, i.bytes)) = some (some (.int .u64 0), 1, 8) by kernel_rfl)
  have HI := Lib.hid hi
  have HZ0 := Lib.hid hz0
  have HZ1 := Lib.hid hz1
  have HZ2 := Lib.hid hz2
  clear hi hz0 hz1 hz2
  have HPI := Lib.hid (fun W => pieces_any x hx W)
  have HTI := Lib.hid (fun (W : World) (B2 g c d : Nat) (P : List Nat) (hP : Blk W g 49 (P.map dV)) (hB : Blk W B2 49 ((piecesL x).map dV)) (h1 : P.length ≤ 1000) (h2 : ∀ j, dig P j < 65536) => times_any W g B2 c d P (piecesL x) hP hB h1 (show 4 ≤ 1000 by omega) h2 (pieces_small x hx))
  go_enter Tryd.func26, Tryd.ntmps26
  go_wp2
  go_loopw [7, 8] (fun vp vk wr => ∃ (k g : Nat) (P : List Nat), k ≤ b ∧ vk = .int .i64 k ∧ vp = .slice (some ⟨g, 0, none⟩) P.length P.length ∧ P.length = 1 + 5 * k ∧ (∀ j, dig P j < 65536) ∧ valN (dig P) P.length = x ^ k ∧ w.heap.size ≤ g ∧ Blk wr g 49 (P.map dV) ∧ Below w.heap.size w wr) (fun _ vk _ => b - (intOf vk).toNat)
  case atStart => exact ⟨0, _, [1], by omega, rfl, rfl, rfl, digs_one, rfl, Nat.le_refl _, Blk.new' _ _ ([1].map dV) rfl, (Below.refl _ _).alloc (Nat.le_refl _) _⟩
  case round =>
    obtain ⟨k, g, P, hk, rfl, rfl, hPl, hPs, hPv, hgw, hblk, hbel⟩ := hrel
    by_cases hkb : k < b
    · have hkd : decide ((k : Int) < (b : Int)) = true := decide_eq_true (by omega)
      have HPL := Lib.hid hPl
      have HPS := Lib.hid hPs
      have HPV := Lib.hid hPv
      have HBLK := Lib.hid hblk
      have HBEL := Lib.hid hbel
      have hlg := hblk.lt
      clear hPl hPs hPv hblk hbel
      go_wp2_with fail
      refine (HPI.out _).mono ?_
      rintro e w1 ⟨rfl, k1, b1⟩
      have K1 := Lib.hid k1
      have B1 := Lib.hid b1
      clear k1 b1
      go_wp2_with fail
      refine (HTI.out _ _ _ _ _ P (HBLK.out.below B1.out hlg) K1.out (by rw [HPL.out]; omega) HPS.out).mono ?_
      rintro e w2 ⟨O, rfl, ho, k2, b2⟩
      have HO := Lib.hid ho
      have K2 := Lib.hid k2
      have B2 := Lib.hid b2
      clear ho k2 b2
      go_wp2
      go_roundw
      case rel =>
        refine ⟨k + 1, _, O, by omega, by go_num, rfl, by rw [HO.out.len, HPL.out]; simp [piecesL]; omega, HO.out.small, ?_, ?_, K2.out, ?_⟩
        · have h1 : (piecesL x).length = 4 := rfl
          rw [HO.out.value, HPV.out, h1, pieces_val, Nat.pow_succ]
        · exact Nat.le_trans HBEL.out.size B1.out.size
        · exact (HBEL.out.trans (B1.out.mono HBEL.out.size)).trans (B2.out.mono (Nat.le_trans HBEL.out.size B1.out.size))
      case measure => simp [intOf]; omega
    · obtain rfl : k = b := by omega
      obtain ⟨z, hz⟩ : ∃ z, z = 2 * k := ⟨_, rfl⟩
      have hq : 2 * (k : Int) = (z : Int) := by omega
      have hm := makeU z (by omega) wr
      have HPL := Lib.hid hPl
      have HPS := Lib.hid hPs
      have HPV := Lib.hid hPv
      have hlg := hblk.lt
      have HZ := Lib.hid hz
      have HNS : Hid (∀ j, dig (highL z n) j < 65536) := Lib.hid (fun j => high_small z n j (by omega))
      have HQ0 : Hid (Blk ((wr.alloc (.cells (List.replicate z (Value.int .u64 0)).toArray 49)).alloc (.cells #[.int .u64 (n : Int)] 49)) wr.heap.size 49 ((List.replicate z 0).map dV)) := Lib.hid (by
        rw [List.map_replicate]; exact (Blk.new' _ _ _ rfl).alloc _)
      have HQ1 : Hid (Blk ((wr.alloc (.cells (List.replicate z (Value.int .u64 0)).toArray 49)).alloc (.cells #[.int .u64 (n : Int)] 49)) (wr.heap.size + 1) 49 ([n].map dV)) := Lib.hid (Blk.new' _ _ ([n].map dV) (by simp))
      have HQB : Hid (Below w.heap.size w ((wr.alloc (.cells (List.replicate z (Value.int .u64 0)).toArray 49)).alloc (.cells #[.int .u64 (n : Int)] 49))) := Lib.hid ((hbel.alloc hbel.size _).alloc (by simp; have := hbel.size; omega) _)
      have HQP : Hid (Blk ((wr.alloc (.cells (List.replicate z (Value.int .u64 0)).toArray 49)).alloc (.cells #[.int .u64 (n : Int)] 49)) g 49 (P.map dV)) := Lib.hid ((hblk.alloc _).alloc _)
      have hzb : z ≤ 6 := by omega
      have hrl : (List.replicate z 0 : List Nat).length = z := List.length_replicate
      clear hPl hPs hPv hblk hbel hz HPI HTI
      go_wp2_with (at_builtin; refine wpList_appendU _ rfl _ _ 61 rfl 49 i0 Tryd.underlying61 HI.out HZ0.out HZ1.out HZ2.out wr.heap.size (wr.heap.size + 1) 1 n (List.replicate z 0) (by rw [hrl]; rfl) HQ0.out rfl HQ1.out (by rw [hrl]; omega) ?_)
      intro g2 cap w3 hcap hg2 hlt2 hcell b3
      have HCE := Lib.hid hcell
      have HB3 : Hid (Below w.heap.size w w3) := Lib.hid (HQB.out.trans (b3.mono (by have := HQB.out.size; simp at this ⊢; omega)))
      have HP3 : Hid (Blk w3 g 49 (P.map dV)) := Lib.hid (HQP.out.below b3 (by omega))
      have HVP : Hid (valN (dig P) 21 = x ^ k) := Lib.hid (by rw [valN_ext' P.length 21 (by rw [HPL.out]; omega) (fun i hi => dig_out P i hi), HPV.out])
      have HVQ : Hid (valN (dig (highL z n)) 21 = n * 65536 ^ (2 * k)) := Lib.hid (by rw [high_val z n 21 (by omega), HZ.out])
      have HQO : Hid (∀ j, z + 1 ≤ j → dig (highL z n) j = 0) := Lib.hid (fun j hj => dig_out _ _ (by rw [high_len]; exact hj))
      have HCQ : Hid (∀ j, j < z + 1 → w3.cell? ⟨g2, j, none⟩ = some (.int .u64 (dig (highL z n) j : Int))) := HCE
      have HEND : Hid (decide (x ^ k ≤ n * 65536 ^ (2 * k)) = decide (valN (dig P) 21 ≤ valN (dig (highL z n)) 21)) := Lib.hid (by rw [HVP.out, HVQ.out])
      have hpl : P.length ≤ 16 := by rw [HPL.out]; omega
      generalize highL z n = Q at *
      clear hcell b3 HQB HQP HQ0 HQ1 HCE HVP HVQ HPV HPL hm hq HZ hrl
      go_wp2
      go_loop [10] (fun vi => ∃ q : Int, -1 ≤ q ∧ q ≤ 20 ∧ vi = .int .i64 q ∧ ∀ j : Nat, q < (j : Int) → j < 21 → dig P j = dig Q j) (fun vi => (intOf vi + 1).toNat)
      case atStart => exact ⟨20, by omega, by omega, rfl, fun j h1 h2 => by omega⟩
      case round =>
        obtain ⟨q, hq1, hq2, rfl, hsame⟩ := hrel
        have HSA := Lib.hid hsame
        clear hsame
        by_cases hq0 : 0 ≤ q
        · obtain ⟨m, rfl⟩ := Int.eq_ofNat_of_zero_le hq0
          have sP := HPS.out m
          have sQ := HNS.out m
          have HDI : Hid (dig P m ≠ dig Q m → decide ((dig P m : Int) < (dig Q m : Int)) = decide (x ^ k ≤ n * 65536 ^ (2 * k))) := Lib.hid (fun hd => by
            rw [HEND.out]; exact cmp_differ HPS.out HNS.out (by omega) (fun j h1 h2 => HSA.out j (by omega) h2) hd)
          have HNX : Hid (dig P m = dig Q m → ∀ j : Nat, (m : Int) - 1 < (j : Int) → j < 21 → dig P j = dig Q j) := Lib.hid (fun he j h1 h2 => by
            by_cases e : j = m
            · rw [e]; exact he
            · exact HSA.out j (by omega) h2)
          have HOP : Hid (¬ m < P.length → dig P m = 0) := Lib.hid (fun h => dig_out P m (by omega))
          have HOQ : Hid (¬ m < z + 1 → dig Q m = 0) := Lib.hid (fun h => HQO.out m (by omega))
          have HCP : Hid (m < P.length → w3.cell? ⟨g, m, none⟩ = some (.int .u64 (dig P m : Int))) := Lib.hid (fun h => (HP3.out.cell m).trans (dig_map P m h))
          have HCR : Hid (m < z + 1 → w3.cell? ⟨g2, m, none⟩ = some (.int .u64 (dig Q m : Int))) := Lib.hid (fun h => HCQ.out m h)
          clear HSA hq0
          generalize dig P m = a at *
          generalize dig Q m = b at *
          generalize hD : decide (x ^ k ≤ n * 65536 ^ (2 * k)) = D at *
          have HD := Lib.hid hD
          clear hD HPS HNS HEND
          by_cases h1 : m < P.length
          · have c1 := HCP.out h1
            have i1 : (m : Int) < (P.length : Int) := by omega
            by_cases h2 : m < z + 1
            · have c2 := HCR.out h2
              have i2 : (m : Int) < (z : Int) + 1 := by omega
              rcases Nat.lt_trichotomy a b with hd | hd | hd
              · have hdi : (a : Int) < (b : Int) := by omega
                have HR := Lib.hid (HDI.out (by omega))
                rw [show decide (((a : Nat) : Int) < ((b : Nat) : Int)) = true from decide_eq_true (by omega)] at HR
                clear HDI HNX
                go_wp2
                go_ret
                rw [HD.out, ← HR.out]
                exact ⟨rfl, HB3.out⟩
              · subst hd
                have HN := Lib.hid (HNX.out rfl)
                clear HDI HNX
                go_wp2
                go_round
                case rel => exact ⟨(m : Int) - 1, by omega, by omega, by go_num, HN.out⟩
                case measure => simp [intOf] <;> omega
              · have hdi : ¬ (a : Int) < (b : Int) := by omega
                have hde : ((a : Int) == (b : Int)) = false := by rw [beq_eq_false_iff_ne]; omega
                have HR := Lib.hid (HDI.out (by omega))
                rw [show decide (((a : Nat) : Int) < ((b : Nat) : Int)) = false from decide_eq_false (by omega)] at HR
                clear HDI HNX
                go_wp2
                go_ret
                rw [HD.out, ← HR.out]
                exact ⟨rfl, HB3.out⟩
            · have i2 : ¬ (m : Int) < (z : Int) + 1 := by omega
              obtain rfl := HOQ.out h2
              rcases Nat.eq_zero_or_pos a with rfl | hd
              · have HN := Lib.hid (HNX.out rfl)
                clear HDI HNX
                go_wp2
                go_round
                case rel => exact ⟨(m : Int) - 1, by omega, by omega, by go_num, HN.out⟩
                case measure => simp [intOf] <;> omega
              · have hdi : ¬ (a : Int) < 0 := by omega
                have hde : ((a : Int) == 0) = false := by rw [beq_eq_false_iff_ne]; omega
                have HR := Lib.hid (HDI.out (by omega))
                rw [show decide (((a : Nat) : Int) < ((0 : Nat) : Int)) = false from decide_eq_false (by omega)] at HR
                clear HDI HNX
                go_wp2
                go_ret
                rw [HD.out, ← HR.out]
                exact ⟨rfl, HB3.out⟩
          · have i1 : ¬ (m : Int) < (P.length : Int) := by omega
            by_cases h2 : m < z + 1
            · have c2 := HCR.out h2
              have i2 : (m : Int) < (z : Int) + 1 := by omega
              obtain rfl := HOP.out h1
              rcases Nat.eq_zero_or_pos b with rfl | hd
              · have HN := Lib.hid (HNX.out rfl)
                clear HDI HNX
                go_wp2
                go_round
                case rel => exact ⟨(m : Int) - 1, by omega, by omega, by go_num, HN.out⟩
                case measure => simp [intOf] <;> omega
              · have hdi : (0 : Int) < (b : Int) := by omega
                have hde : ((0 : Int) == (b : Int)) = false := by rw [beq_eq_false_iff_ne]; omega
                have HR := Lib.hid (HDI.out (by omega))
                rw [show decide (((0 : Nat) : Int) < ((b : Nat) : Int)) = true from decide_eq_true (by omega)] at HR
                clear HDI HNX
                go_wp2
                go_ret
                rw [HD.out, ← HR.out]
                exact ⟨rfl, HB3.out⟩
            · have i2 : ¬ (m : Int) < (z : Int) + 1 := by omega
              obtain rfl := HOP.out h1
              obtain rfl := HOQ.out h2
              have HN := Lib.hid (HNX.out rfl)
              clear HDI HNX
              go_wp2
              go_round
              case rel => exact ⟨(m : Int) - 1, by omega, by omega, by go_num, HN.out⟩
              case measure => simp [intOf] <;> omega
        · obtain rfl : q = -1 := by omega
          have hdt : decide (x ^ k ≤ n * 65536 ^ (2 * k)) = true := by
            rw [HEND.out]; exact cmp_same (fun j h => HSA.out j (by omega) h)
          have HDT := Lib.hid hdt
          clear hdt HSA HEND HPS HNS
          go_wp2
          go_ret
          rw [HDT.out]
          exact ⟨rfl, HB3.out⟩
end Go.Proofs.YtanplccigmihfaaDoor
