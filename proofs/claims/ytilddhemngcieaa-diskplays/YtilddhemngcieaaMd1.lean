/-
  The law's model: a file that there is from now on.
-/
import Derived.Test.YtilddhemngcieaaMd0
import Derived.Deep.AppendLies
import Derived.Laws.AppendOwnNone
namespace Go.Pal.Dk
open Go.Pal
/-- Before whom a name comes. -/
def placeF (n : ByteArray) : List Fl → Nat
  | [] => 0
  | f :: r => if f.name.data.toList < n.data.toList then placeF n r + 1 else 0
theorem placeF_le (n : ByteArray) : ∀ l : List Fl, placeF n l ≤ l.length
  | [] => Nat.le_refl _
  | f :: r => by
    have := placeF_le n r
    unfold placeF
    split <;> simp <;> omega
theorem insF_place (x : Fl) : ∀ l : List Fl, insF x l = l.take (placeF x.name l) ++ x :: l.drop (placeF x.name l)
  | [] => rfl
  | f :: r => by
    unfold insF placeF
    split
    · simp only [List.take_succ_cons, List.drop_succ_cons, List.cons_append]
      rw [← insF_place x r]
    · rfl
theorem place_lt (n : ByteArray) : ∀ (l : List Fl) (k : Nat), k < placeF n l → ∀ hk : k < l.length, l[k].name.data.toList < n.data.toList
  | f :: r, k, h, hk => by
    unfold placeF at h
    split at h
    · rename_i hf
      match k, h, hk with
      | 0, _, _ => exact hf
      | k + 1, h, hk => exact place_lt n r k (by omega) (by simpa using hk)
    · omega
theorem place_at (n : ByteArray) : ∀ (l : List Fl) (hk : placeF n l < l.length), ¬ l[placeF n l].name.data.toList < n.data.toList
  | f :: r, hk => by
    by_cases hf : f.name.data.toList < n.data.toList
    · have e : placeF n (f :: r) = placeF n r + 1 := by rw [placeF, if_pos hf]
      simp only [e, List.getElem_cons_succ]
      exact place_at n r (by rw [e] at hk; simpa using hk)
    · have e : placeF n (f :: r) = 0 := by rw [placeF, if_neg hf]
      simp only [e, List.getElem_cons_zero]
      exact hf
end Go.Pal.Dk
namespace Go.Proofs.Ytilddhemngcieaa
open Go.RowKit Go.Pal Go.Pal.Dk

theorem m_less {a b : ByteArray} (h : a.data.toList < b.data.toList) : Op.bytesLess a.toList b.toList = true := by
  rw [bytesLess_eq, ByteArray.toList_eq, ByteArray.toList_eq]; exact decide_eq_true h
theorem m_not_less {a b : ByteArray} (h : ¬ a.data.toList < b.data.toList) : Op.bytesLess a.toList b.toList = false := by
  rw [bytesLess_eq, ByteArray.toList_eq, ByteArray.toList_eq]; exact decide_eq_false h
theorem own_base {w : World} {b b' n : Nat} {t : TypeId} {size : Nat} {v : Value} {l : List Value} (h : w.ownsRow b t size v n l) (hb : b' ≤ b) : w.ownsRow b' t size v n l := by
  refine ⟨h.1, ?_⟩
  rcases h.2 with h2 | ⟨g, cap, cur, e, h1, r⟩
  · exact .inl h2
  · exact .inr ⟨g, cap, cur, e, Nat.le_trans hb h1, r⟩
theorem mmake_fin {w W : World} {base M : Nat} {d : Dk} {v v' : Value} {left : Nat} {n : ByteArray} (h : MdAt w base M d v left) (hb : base ≤ w.heap.size) (B : Below w.heap.size w W)
    (o : W.ownsRow w.heap.size 55 3 v' (placeF n d.files + 1 + (d.files.length - placeF n d.files)) (cellsF (d.files.take (placeF n d.files)) ++ (.string n :: .string ⟨#[]⟩ :: .int .i64 0 :: cellsF (d.files.drop (placeF n d.files))))) :
    MdAt (W.setCell ⟨M, 1, none⟩ v') base M { d with files := insF ⟨n, ByteArray.empty, 0⟩ d.files } v' left ∧ Off (fun g => g = M) w (W.setCell ⟨M, 1, none⟩ v') ∧ ∀ g, v'.ownBlock = some g → w.heap.size ≤ g := by
  have hle := placeF_le n d.files
  have hM := h.blk.lt
  refine ⟨⟨?_, ?_, h.small, h.arm, h.mbase⟩, (Off.of_new B (fun g => g = M)).set (p := ⟨M, 1, none⟩) (.inr rfl) v', fun g hg => (own_lt o hg).2.1⟩
  · exact (h.blk.below B hM).set 1 v'
  · refine own_kept ?_ (fun g hg => Below.heap_setCell W ⟨M, 1, none⟩ v' g (fun e => ?_))
    · show W.ownsRow base 55 3 v' (insF ⟨n, ByteArray.empty, 0⟩ d.files).length (cellsF (insF ⟨n, ByteArray.empty, 0⟩ d.files))
      rw [length_insF, insF_place, cellsF_append]
      rw [show placeF n d.files + 1 + (d.files.length - placeF n d.files) = d.files.length + 1 by omega] at o
      exact own_base o hb
    · have := (own_lt o hg).2.1
      have e' : g = M := e
      omega
set_option maxHeartbeats 1000000 in
set_option maxRecDepth 100000 in
theorem mmake_any {w : World} {base M : Nat} {d : Dk} {v : Value} {left : Nat} (h : MdAt w base M d v left) (hlen : d.files.length ≤ 1000000) (n : ByteArray) (hb : base ≤ w.heap.size) :
    Calls Try.prog 49 #[.pointer (some ⟨M, 0, none⟩), .string n] w fun e w' => e = .returned (.int .i64 (placeF n d.files : Nat)) ∧ ∃ v', MdAt w' base M { d with files := insF ⟨n, ByteArray.empty, 0⟩ d.files } v' left ∧ Off (fun g => g = M) w w' ∧ ∀ g, v'.ownBlock = some g → w.heap.size ≤ g := by
  obtain ⟨p, cap, rfl, _, hcm, hb1, hp, hc⟩ := h.open
  have HC := Lib.hid hc
  have HP := Lib.hid hp
  have HL := Lib.hid (place_lt n d.files)
  have HA := Lib.hid (place_at n d.files)
  have hle := placeF_le n d.files
  have H := Lib.hid h
  clear h hc hp
  go_enter Try.func49, Try.ntmps49
  go_wp2
  go_loop [5] (fun j => ∃ k : Nat, k ≤ placeF n d.files ∧ j = .int .i64 k) (fun j => placeF n d.files - (intOf j).toNat)
  case atStart => exact ⟨0, Nat.zero_le _, rfl⟩
  case round =>
    obtain ⟨k, hk, rfl⟩ := hrel
    by_cases hlt : k < placeF n d.files
    · have hkl : k < d.files.length := by omega
      obtain ⟨g, rfl⟩ := HP.out (by omega)
      have ck := (HC.out g rfl k hkl).1
      have hne := m_less (HL.out k hlt hkl)
      generalize d.files[k].name = nm at *
      go_wp2
      go_round
      case rel => exact ⟨k + 1, by omega, by go_num⟩
      case measure => simp [intOf]; omega
    · obtain rfl : k = placeF n d.files := by omega
      obtain ⟨i0, hi0, hz0, hz1, hz2⟩ := info_parts (show (Try.prog.info? 55).map (fun i => (i.zero, i.size, i.bytes)) = some (some (.agg #[.string ⟨#[]⟩, .string ⟨#[]⟩, .int .i64 0]), 3, 40) by kernel_rfl)
      have I0 := Lib.hid hi0
      have Z0 := Lib.hid hz0
      have Z1 := Lib.hid hz1
      have Z2 := Lib.hid hz2
      clear hi0 hz0 hz1 hz2 hk hlt
      have hM := H.out.blk.lt
      have FZ := Lib.hid (fun (W : World) (hB : Below w.heap.size w W) => (H.out.blk.below hB hM).frozen 1)
      have HM := Lib.hid (fun (W : World) (hB : Below w.heap.size w W) => (hB.cell (p := ⟨M, 1, none⟩) hM).trans hb1)
      obtain ⟨W0, hW0⟩ : ∃ W0, W0 = w.alloc (.cells #[] 55) := ⟨_, rfl⟩
      have B0 : Below w.heap.size w W0 := by rw [hW0]; exact new_below w _
      have m0 := HM.out W0 B0
      have own0 : W0.ownsRow w.heap.size 55 3 (.slice (some ⟨w.heap.size, 0, none⟩) 0 0) 0 [] := by rw [hW0]; exact World.ownsRow_lit w #[] 0 (Nat.le_refl _) (by decide) rfl
      have O0 := Lib.hid own0
      clear own0
      rw [hW0] at m0
      rcases p with _ | p
      · have hl0 : d.files.length = 0 := by
          rcases H.out.row.2 with ⟨_, h1⟩ | ⟨g, cap', cur, e, _⟩
          · exact h1
          · cases e
        have hc0 : cap = 0 := by
          rcases H.out.row.2 with ⟨h0, h1⟩ | ⟨g, cap', cur, e, _⟩
          · injection h0
          · cases e
        have hp0 : placeF n d.files = 0 := by omega
        have hfe : d.files = [] := List.eq_nil_of_length_eq_zero hl0
        have HM' := Lib.hid (show ∀ W, Below w.heap.size w W → W.cell? ⟨M, 1, none⟩ = some (.slice none 0 0) by
          intro W hB
          have := HM.out W hB
          rw [hl0, hc0] at this; exact this)
        have hb1' : w.cell? ⟨M, 1, none⟩ = some (.slice none 0 0) := by rw [hl0, hc0] at hb1; exact hb1
        rw [hl0, hc0] at m0
        have HP0 := Lib.hid hp0
        have H4 := Lib.hid (show 0 + 1 ≤ maxLen by unfold maxLen; omega)
        have H5 := Lib.hid (show (0 + 1) * 40 ≤ 140737488355328 by omega)
        have HFIN := Lib.hid (show ∀ W v', Below w.heap.size w W → W.ownsRow w.heap.size 55 3 v' 1 [.string n, .string ⟨#[]⟩, .int .i64 0] → _ from fun W v' B o => mmake_fin (n := n) (v' := v') H.out hb B (by rw [hp0, hl0, hfe]; exact o))
        rw [hp0]
        clear hb1 HM HC HP HL HA hle hl0 hc0 hp0 hfe H
        obtain ⟨W2, hW2⟩ : ∃ W2, W2 = (w.alloc (.cells #[] 55)).alloc (.cells #[.string n, .string ⟨#[]⟩, .int .i64 0] 55) := ⟨_, rfl⟩
        have B2 : Below w.heap.size w W2 := by rw [hW2, ← hW0]; exact B0.alloc B0.size _
        have O1 := Lib.hid (show W2.ownsRow w.heap.size 55 3 (.slice (some ⟨w.heap.size, 0, none⟩) 0 0) 0 [] by rw [hW2, ← hW0]; exact O0.out.alloc _)
        have HN := Lib.hid (World.news_of_block (cs := #[.string n, .string ⟨#[]⟩, .int .i64 0]) (t := 55) (fr := (0, 0)) (show W2.heap[w.heap.size + 1]? = _ by
          have hz : (w.alloc (.cells #[] 55)).heap.size = w.heap.size + 1 := by simp
          rw [hW2, ← hz]; exact heap_alloc_new _ _))
        have H6 := Lib.hid (show w.heap.size ≤ W2.heap.size from B2.size)
        go_wp2_with (at_builtin; rw [← hW2]; refine wpList_append_own _ rfl _ _ 43 rfl w.heap.size 55 i0 (.agg #[.string ⟨#[]⟩, .string ⟨#[]⟩, .int .i64 0]) 3 40 Try.underlying43 I0.out Z0.out Z1.out Z2.out rfl (by decide) _ 0 [] rfl O1.out ⟨w.heap.size + 1, 0, none⟩ 1 1 [.string n, .string ⟨#[]⟩, .int .i64 0] rfl rfl HN.out (cellsF_one [⟨n, ⟨#[]⟩, 0⟩]) H4.out H5.out H6.out ?_)
        intro v2 W3 own3 g3 _
        rw [← hW2] at g3
        have B3 := B2.grown g3 B2.size (fun j hj => (own_lt O1.out hj).2.1)
        obtain ⟨p4, c4, rfl, h41, h42⟩ := row3_form own3
        obtain ⟨g4, rfl⟩ := row3_at own3 (by omega)
        unfold maxLen at h42
        have m3 := HM'.out W3 B3
        have f3 : W3.frozen? ⟨M, 1, none⟩ = false := FZ.out W3 B3
        have FIN := Lib.hid (HFIN.out W3 _ B3 own3)
        clear own3 g3 hW2 B2 hW0 m0
        go_wp2
        go_ret
        exact ⟨by rw [HP0.out]; rfl, _, FIN.out⟩
      · obtain ⟨g, rfl⟩ : ∃ g, p = ⟨g, 0, none⟩ := by
          rcases H.out.row.2 with ⟨h1, _⟩ | ⟨g, cap', cur, e, _⟩
          · cases h1
          · cases e; exact ⟨g, rfl⟩
        have hg := (own_lt H.out.row (g := g) rfl).1
        have HR := Lib.hid (show ∀ (W : World), Below w.heap.size w W → ∀ j u, (cellsF d.files)[j]? = some u → W.cell? ⟨g, j, none⟩ = some u by
          intro W hB j u hj
          have hjl : j < d.files.length * 3 := by have := (List.getElem?_eq_some_iff.1 hj).1; rw [cellsF_length] at this; exact this
          rw [(hB.cell (p := ⟨g, j, none⟩) hg).trans (own3_cell H.out.row j hjl).1]; exact hj)
        have HT := Lib.hid (show ∀ j u, (cellsF (d.files.take (placeF n d.files)))[j]? = some u → W0.cell? ((⟨g, 0, none⟩ : Addr).add j) = some u by
          intro j u hj
          rw [show (⟨g, 0, none⟩ : Addr).add j = ⟨g, j, none⟩ by unfold Addr.add; split <;> simp_all]
          refine HR.out W0 B0 j u ?_
          rw [← cellsF_take] at hj
          exact (List.getElem?_take_of_lt (by
            have := (List.getElem?_eq_some_iff.1 hj).1
            rw [List.length_take] at this; omega)).symm.trans hj)
        have HTL := Lib.hid (show (cellsF (d.files.take (placeF n d.files))).length = placeF n d.files * 3 by rw [cellsF_length, List.length_take]; omega)
        have H1 := Lib.hid (show 0 + placeF n d.files ≤ maxLen by unfold maxLen; omega)
        have H2 := Lib.hid (show (0 + placeF n d.files) * 40 ≤ 140737488355328 by omega)
        have H3 := Lib.hid (show w.heap.size ≤ W0.heap.size from B0.size)
        by_cases hkl : placeF n d.files < d.files.length
        · have ck := (HC.out g rfl (placeF n d.files) hkl).1
          have hne := m_not_less (HA.out hkl)
          generalize d.files[placeF n d.files].name = nm at *
          go_wp2_with (at_builtin; rw [← hW0]; refine wpList_append_own _ rfl _ _ 43 rfl w.heap.size 55 i0 (.agg #[.string ⟨#[]⟩, .string ⟨#[]⟩, .int .i64 0]) 3 40 Try.underlying43 I0.out Z0.out Z1.out Z2.out rfl (by decide) _ 0 [] rfl O0.out ⟨g, 0, none⟩ (placeF n d.files) cap _ rfl HTL.out HT.out (cellsF_one _) H1.out H2.out H3.out ?_)
          intro v1 W1 own1 g1 _
          rw [← hW0] at g1
          have B1 := B0.grown g1 B0.size (fun j hj => (own_lt O0.out hj).2.1)
          obtain ⟨W2, hW2⟩ : ∃ W2, W2 = W1.alloc (.cells #[.string n, .string ⟨#[]⟩, .int .i64 0] 55) := ⟨_, rfl⟩
          have B2 : Below w.heap.size w W2 := by rw [hW2]; exact B1.alloc B1.size _
          have O1 := Lib.hid (show W2.ownsRow w.heap.size 55 3 v1 (placeF n d.files) (cellsF (d.files.take (placeF n d.files))) by rw [hW2]; exact own1.alloc _)
          have HN := Lib.hid (World.news_of_block (cs := #[.string n, .string ⟨#[]⟩, .int .i64 0]) (t := 55) (fr := (0, 0)) (show W2.heap[W1.heap.size]? = _ by rw [hW2]; exact heap_alloc_new W1 _))
          have H4 := Lib.hid (show placeF n d.files + 1 ≤ maxLen by unfold maxLen; omega)
          have H5 := Lib.hid (show (placeF n d.files + 1) * 40 ≤ 140737488355328 by omega)
          have H6 := Lib.hid (show w.heap.size ≤ W2.heap.size from B2.size)
          clear own1 g1 hW0 m0
          go_wp2_with (at_builtin; rw [← hW2]; refine wpList_append_own _ rfl _ _ 43 rfl w.heap.size 55 i0 (.agg #[.string ⟨#[]⟩, .string ⟨#[]⟩, .int .i64 0]) 3 40 Try.underlying43 I0.out Z0.out Z1.out Z2.out rfl (by decide) _ (placeF n d.files) (cellsF (d.files.take (placeF n d.files))) rfl O1.out ⟨W1.heap.size, 0, none⟩ 1 1 [.string n, .string ⟨#[]⟩, .int .i64 0] rfl rfl HN.out (cellsF_one [⟨n, ⟨#[]⟩, 0⟩]) H4.out H5.out H6.out ?_)
          intro v2 W3 own3 g3 _
          rw [← hW2] at g3
          have B3 := B2.grown g3 B2.size (fun j hj => (own_lt O1.out hj).2.1)
          have O3 := Lib.hid own3
          have m3 := HM.out W3 B3
          have HD := Lib.hid (show ∀ j u, (cellsF (d.files.drop (placeF n d.files)))[j]? = some u → W3.cell? ((⟨g, placeF n d.files * 3, none⟩ : Addr).add j) = some u by
            intro j u hj
            rw [show (⟨g, placeF n d.files * 3, none⟩ : Addr).add j = ⟨g, placeF n d.files * 3 + j, none⟩ by unfold Addr.add; split <;> simp_all]
            refine HR.out W3 B3 _ u ?_
            rw [← cellsF_drop _ _ hle, List.getElem?_drop] at hj
            exact hj)
          have HDL := Lib.hid (show (cellsF (d.files.drop (placeF n d.files))).length = (d.files.length - placeF n d.files) * 3 by rw [cellsF_length, List.length_drop])
          have H7 := Lib.hid (show placeF n d.files + 1 + (d.files.length - placeF n d.files) ≤ maxLen by unfold maxLen; omega)
          have H8 := Lib.hid (show (placeF n d.files + 1 + (d.files.length - placeF n d.files)) * 40 ≤ 140737488355328 by omega)
          have H9 := Lib.hid (show w.heap.size ≤ W3.heap.size from B3.size)
          clear own3 g3 hW2 B2
          go_wp2_with (at_builtin; refine wpList_append_own _ rfl _ _ 43 rfl w.heap.size 55 i0 (.agg #[.string ⟨#[]⟩, .string ⟨#[]⟩, .int .i64 0]) 3 40 Try.underlying43 I0.out Z0.out Z1.out Z2.out rfl (by decide) _ _ _ rfl O3.out (⟨g, placeF n d.files * 3, none⟩) (d.files.length - placeF n d.files) (cap - placeF n d.files) _ rfl HDL.out HD.out (cellsF_one _) H7.out H8.out H9.out ?_)
          intro v3 W4 own4 g4 _
          obtain ⟨p4, c4, rfl, _, _⟩ := row3_form own4
          have B4 := B3.grown g4 B3.size (fun j hj => (own_lt O3.out hj).2.1)
          have m4 := HM.out W4 B4
          have f4 : W4.frozen? ⟨M, 1, none⟩ = false := FZ.out W4 B4
          have FIN := Lib.hid (mmake_fin H.out hb B4 own4)
          clear own4 g4
          go_wp2
          go_ret
          exact ⟨rfl, _, FIN.out⟩
        by_cases hcap : placeF n d.files < cap
        · go_wp2_with (at_builtin; rw [← hW0]; refine wpList_append_own _ rfl _ _ 43 rfl w.heap.size 55 i0 (.agg #[.string ⟨#[]⟩, .string ⟨#[]⟩, .int .i64 0]) 3 40 Try.underlying43 I0.out Z0.out Z1.out Z2.out rfl (by decide) _ 0 [] rfl O0.out ⟨g, 0, none⟩ (placeF n d.files) cap _ rfl HTL.out HT.out (cellsF_one _) H1.out H2.out H3.out ?_)
          intro v1 W1 own1 g1 _
          rw [← hW0] at g1
          have B1 := B0.grown g1 B0.size (fun j hj => (own_lt O0.out hj).2.1)
          obtain ⟨W2, hW2⟩ : ∃ W2, W2 = W1.alloc (.cells #[.string n, .string ⟨#[]⟩, .int .i64 0] 55) := ⟨_, rfl⟩
          have B2 : Below w.heap.size w W2 := by rw [hW2]; exact B1.alloc B1.size _
          have O1 := Lib.hid (show W2.ownsRow w.heap.size 55 3 v1 (placeF n d.files) (cellsF (d.files.take (placeF n d.files))) by rw [hW2]; exact own1.alloc _)
          have HN := Lib.hid (World.news_of_block (cs := #[.string n, .string ⟨#[]⟩, .int .i64 0]) (t := 55) (fr := (0, 0)) (show W2.heap[W1.heap.size]? = _ by rw [hW2]; exact heap_alloc_new W1 _))
          have H4 := Lib.hid (show placeF n d.files + 1 ≤ maxLen by unfold maxLen; omega)
          have H5 := Lib.hid (show (placeF n d.files + 1) * 40 ≤ 140737488355328 by omega)
          have H6 := Lib.hid (show w.heap.size ≤ W2.heap.size from B2.size)
          clear own1 g1 hW0 m0
          go_wp2_with (at_builtin; rw [← hW2]; refine wpList_append_own _ rfl _ _ 43 rfl w.heap.size 55 i0 (.agg #[.string ⟨#[]⟩, .string ⟨#[]⟩, .int .i64 0]) 3 40 Try.underlying43 I0.out Z0.out Z1.out Z2.out rfl (by decide) _ (placeF n d.files) (cellsF (d.files.take (placeF n d.files))) rfl O1.out ⟨W1.heap.size, 0, none⟩ 1 1 [.string n, .string ⟨#[]⟩, .int .i64 0] rfl rfl HN.out (cellsF_one [⟨n, ⟨#[]⟩, 0⟩]) H4.out H5.out H6.out ?_)
          intro v2 W3 own3 g3 _
          rw [← hW2] at g3
          have B3 := B2.grown g3 B2.size (fun j hj => (own_lt O1.out hj).2.1)
          have O3 := Lib.hid own3
          have m3 := HM.out W3 B3
          have HD := Lib.hid (show ∀ j u, (cellsF (d.files.drop (placeF n d.files)))[j]? = some u → W3.cell? ((⟨g, placeF n d.files * 3, none⟩ : Addr).add j) = some u by
            intro j u hj
            rw [List.drop_of_length_le (by omega)] at hj
            simp [cellsF] at hj)
          have HDL := Lib.hid (show (cellsF (d.files.drop (placeF n d.files))).length = (d.files.length - placeF n d.files) * 3 by rw [cellsF_length, List.length_drop])
          have H7 := Lib.hid (show placeF n d.files + 1 + (d.files.length - placeF n d.files) ≤ maxLen by unfold maxLen; omega)
          have H8 := Lib.hid (show (placeF n d.files + 1 + (d.files.length - placeF n d.files)) * 40 ≤ 140737488355328 by omega)
          have H9 := Lib.hid (show w.heap.size ≤ W3.heap.size from B3.size)
          clear own3 g3 hW2 B2
          go_wp2_with (at_builtin; refine wpList_append_own _ rfl _ _ 43 rfl w.heap.size 55 i0 (.agg #[.string ⟨#[]⟩, .string ⟨#[]⟩, .int .i64 0]) 3 40 Try.underlying43 I0.out Z0.out Z1.out Z2.out rfl (by decide) _ _ _ rfl O3.out (⟨g, placeF n d.files * 3, none⟩) (d.files.length - placeF n d.files) (cap - placeF n d.files) _ rfl HDL.out HD.out (cellsF_one _) H7.out H8.out H9.out ?_)
          intro v3 W4 own4 g4 _
          obtain ⟨p4, c4, rfl, _, _⟩ := row3_form own4
          have B4 := B3.grown g4 B3.size (fun j hj => (own_lt O3.out hj).2.1)
          have m4 := HM.out W4 B4
          have f4 : W4.frozen? ⟨M, 1, none⟩ = false := FZ.out W4 B4
          have FIN := Lib.hid (mmake_fin H.out hb B4 own4)
          clear own4 g4
          go_wp2
          go_ret
          exact ⟨rfl, _, FIN.out⟩
        · go_wp2_with (at_builtin; rw [← hW0]; refine wpList_append_own _ rfl _ _ 43 rfl w.heap.size 55 i0 (.agg #[.string ⟨#[]⟩, .string ⟨#[]⟩, .int .i64 0]) 3 40 Try.underlying43 I0.out Z0.out Z1.out Z2.out rfl (by decide) _ 0 [] rfl O0.out ⟨g, 0, none⟩ (placeF n d.files) cap _ rfl HTL.out HT.out (cellsF_one _) H1.out H2.out H3.out ?_)
          intro v1 W1 own1 g1 _
          rw [← hW0] at g1
          have B1 := B0.grown g1 B0.size (fun j hj => (own_lt O0.out hj).2.1)
          obtain ⟨W2, hW2⟩ : ∃ W2, W2 = W1.alloc (.cells #[.string n, .string ⟨#[]⟩, .int .i64 0] 55) := ⟨_, rfl⟩
          have B2 : Below w.heap.size w W2 := by rw [hW2]; exact B1.alloc B1.size _
          have O1 := Lib.hid (show W2.ownsRow w.heap.size 55 3 v1 (placeF n d.files) (cellsF (d.files.take (placeF n d.files))) by rw [hW2]; exact own1.alloc _)
          have HN := Lib.hid (World.news_of_block (cs := #[.string n, .string ⟨#[]⟩, .int .i64 0]) (t := 55) (fr := (0, 0)) (show W2.heap[W1.heap.size]? = _ by rw [hW2]; exact heap_alloc_new W1 _))
          have H4 := Lib.hid (show placeF n d.files + 1 ≤ maxLen by unfold maxLen; omega)
          have H5 := Lib.hid (show (placeF n d.files + 1) * 40 ≤ 140737488355328 by omega)
          have H6 := Lib.hid (show w.heap.size ≤ W2.heap.size from B2.size)
          clear own1 g1 hW0 m0
          go_wp2_with (at_builtin; rw [← hW2]; refine wpList_append_own _ rfl _ _ 43 rfl w.heap.size 55 i0 (.agg #[.string ⟨#[]⟩, .string ⟨#[]⟩, .int .i64 0]) 3 40 Try.underlying43 I0.out Z0.out Z1.out Z2.out rfl (by decide) _ (placeF n d.files) (cellsF (d.files.take (placeF n d.files))) rfl O1.out ⟨W1.heap.size, 0, none⟩ 1 1 [.string n, .string ⟨#[]⟩, .int .i64 0] rfl rfl HN.out (cellsF_one [⟨n, ⟨#[]⟩, 0⟩]) H4.out H5.out H6.out ?_)
          intro v2 W3 own3 g3 _
          rw [← hW2] at g3
          have B3 := B2.grown g3 B2.size (fun j hj => (own_lt O1.out hj).2.1)
          have O3 := Lib.hid own3
          have m3 := HM.out W3 B3
          have HD := Lib.hid (show ∀ j u, (cellsF (d.files.drop (placeF n d.files)))[j]? = some u → W3.cell? ((⟨g, 0, none⟩ : Addr).add j) = some u by
            intro j u hj
            rw [List.drop_of_length_le (by omega)] at hj
            simp [cellsF] at hj)
          have HDL := Lib.hid (show (cellsF (d.files.drop (placeF n d.files))).length = (d.files.length - placeF n d.files) * 3 by rw [cellsF_length, List.length_drop])
          have H7 := Lib.hid (show placeF n d.files + 1 + (d.files.length - placeF n d.files) ≤ maxLen by unfold maxLen; omega)
          have H8 := Lib.hid (show (placeF n d.files + 1 + (d.files.length - placeF n d.files)) * 40 ≤ 140737488355328 by omega)
          have H9 := Lib.hid (show w.heap.size ≤ W3.heap.size from B3.size)
          clear own3 g3 hW2 B2
          go_wp2_with (at_builtin; refine wpList_append_own _ rfl _ _ 43 rfl w.heap.size 55 i0 (.agg #[.string ⟨#[]⟩, .string ⟨#[]⟩, .int .i64 0]) 3 40 Try.underlying43 I0.out Z0.out Z1.out Z2.out rfl (by decide) _ _ _ rfl O3.out (⟨g, 0, none⟩) (d.files.length - placeF n d.files) (cap - placeF n d.files) _ rfl HDL.out HD.out (cellsF_one _) H7.out H8.out H9.out ?_)
          intro v3 W4 own4 g4 _
          obtain ⟨p4, c4, rfl, _, _⟩ := row3_form own4
          have B4 := B3.grown g4 B3.size (fun j hj => (own_lt O3.out hj).2.1)
          have m4 := HM.out W4 B4
          have f4 : W4.frozen? ⟨M, 1, none⟩ = false := FZ.out W4 B4
          have FIN := Lib.hid (mmake_fin H.out hb B4 own4)
          clear own4 g4
          go_wp2
          go_ret
          exact ⟨rfl, _, FIN.out⟩
end Go.Proofs.Ytilddhemngcieaa
