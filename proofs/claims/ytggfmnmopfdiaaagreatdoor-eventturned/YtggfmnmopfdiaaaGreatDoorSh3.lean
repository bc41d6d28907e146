/-
  Contract of sha.mix: a block is mixed into the state.
-/
import Derived.Test.YtggfmnmopfdiaaaGreatDoorSh2
import Derived.Deep.WholeRow
namespace Go.Proofs.YtggfmnmopfdiaaaGreatDoor
open Go.RowKit Go.Pal

/-- What the tables hold. -/
structure Tabs (w : World) : Prop where
  words : ∀ i, i < 64 → w.cell? ⟨1, i, none⟩ = some (.int .u32 (u (Kt.getD i 0)))
  first : ∃ t fr, w.heap[0]? = some (.cells (Ht.map wordV).toArray t fr)
  two : 2 ≤ w.heap.size

theorem high_same (x : UInt32) (w : World) :
    Calls Tryz.prog 121 #[.int .u32 (u x)] w fun e w' => e = .returned (.int .u32 (u (highS x))) ∧ w' = w := (high_any x w).mono fun _ _ ⟨h, k⟩ => ⟨h, k.symm⟩

theorem idx0 (x0 x1 x2 x3 x4 x5 x6 x7 : Value) (w : World) : (Instr.index 134 (.agg #[x0, x1, x2, x3, x4, x5, x6, x7]) (.int .i64 0)).run Tryz.prog w = .ok x0 w := by kernel_rfl
theorem idx1 (x0 x1 x2 x3 x4 x5 x6 x7 : Value) (w : World) : (Instr.index 134 (.agg #[x0, x1, x2, x3, x4, x5, x6, x7]) (.int .i64 1)).run Tryz.prog w = .ok x1 w := by kernel_rfl
theorem idx2 (x0 x1 x2 x3 x4 x5 x6 x7 : Value) (w : World) : (Instr.index 134 (.agg #[x0, x1, x2, x3, x4, x5, x6, x7]) (.int .i64 2)).run Tryz.prog w = .ok x2 w := by kernel_rfl
theorem idx3 (x0 x1 x2 x3 x4 x5 x6 x7 : Value) (w : World) : (Instr.index 134 (.agg #[x0, x1, x2, x3, x4, x5, x6, x7]) (.int .i64 3)).run Tryz.prog w = .ok x3 w := by kernel_rfl
theorem idx4 (x0 x1 x2 x3 x4 x5 x6 x7 : Value) (w : World) : (Instr.index 134 (.agg #[x0, x1, x2, x3, x4, x5, x6, x7]) (.int .i64 4)).run Tryz.prog w = .ok x4 w := by kernel_rfl
theorem idx5 (x0 x1 x2 x3 x4 x5 x6 x7 : Value) (w : World) : (Instr.index 134 (.agg #[x0, x1, x2, x3, x4, x5, x6, x7]) (.int .i64 5)).run Tryz.prog w = .ok x5 w := by kernel_rfl
theorem idx6 (x0 x1 x2 x3 x4 x5 x6 x7 : Value) (w : World) : (Instr.index 134 (.agg #[x0, x1, x2, x3, x4, x5, x6, x7]) (.int .i64 6)).run Tryz.prog w = .ok x6 w := by kernel_rfl
theorem idx7 (x0 x1 x2 x3 x4 x5 x6 x7 : Value) (w : World) : (Instr.index 134 (.agg #[x0, x1, x2, x3, x4, x5, x6, x7]) (.int .i64 7)).run Tryz.prog w = .ok x7 w := by kernel_rfl
theorem index8 (R : St) (k : Nat) (hk : k < 8) (w : World) :
    (Instr.index 134 (.agg #[.int .u32 (u R.a), .int .u32 (u R.b), .int .u32 (u R.c), .int .u32 (u R.d), .int .u32 (u R.e), .int .u32 (u R.f), .int .u32 (u R.g), .int .u32 (u R.h)]) (.int .i64 (k : Int))).run Tryz.prog w = .ok (.int .u32 (u (R.list.getD k 0))) w := by
  have h8 : k = 0 ∨ k = 1 ∨ k = 2 ∨ k = 3 ∨ k = 4 ∨ k = 5 ∨ k = 6 ∨ k = 7 := by omega
  rcases h8 with rfl | rfl | rfl | rfl | rfl | rfl | rfl | rfl
  · exact idx0 _ _ _ _ _ _ _ _ w
  · exact idx1 _ _ _ _ _ _ _ _ w
  · exact idx2 _ _ _ _ _ _ _ _ w
  · exact idx3 _ _ _ _ _ _ _ _ w
  · exact idx4 _ _ _ _ _ _ _ _ w
  · exact idx5 _ _ _ _ _ _ _ _ w
  · exact idx6 _ _ _ _ _ _ _ _ w
  · exact idx7 _ _ _ _ _ _ _ _ w
theorem cell8 (s R : St) (k : Nat) (hk : k < 8) : s.vals[k]? = some (.int .u32 (u (s.list.getD k 0))) ∧ (addS s R).vals[k]? = some (.int .u32 (u (s.list.getD k 0 + R.list.getD k 0))) := by
  match k, hk with
  | 0, _ => exact ⟨rfl, rfl⟩
  | 1, _ => exact ⟨rfl, rfl⟩
  | 2, _ => exact ⟨rfl, rfl⟩
  | 3, _ => exact ⟨rfl, rfl⟩
  | 4, _ => exact ⟨rfl, rfl⟩
  | 5, _ => exact ⟨rfl, rfl⟩
  | 6, _ => exact ⟨rfl, rfl⟩
  | 7, _ => exact ⟨rfl, rfl⟩
theorem addS_len (s R : St) : (addS s R).vals.length = 8 := rfl

set_option maxHeartbeats 2000000 in
set_option maxRecDepth 100000 in
theorem mix_any (w : World) (S B : Nat) (s : St) (bs : List UInt8) (hl : bs.length = 64) (ht : Tabs w) (hS : Blk w S 134 s.vals) (hB : Blk w B 145 (bs.map byteV)) :
    Calls Tryz.prog 105 #[.pointer (some ⟨S, 0, none⟩), .pointer (some ⟨B, 0, none⟩)] w fun e w' => e = .returned (.tuple #[]) ∧ Blk w' S 134 (mixS s bs).vals ∧ w.grownBy w' (some S) := by
  have hsch := schedule_any w B bs hl hB
  have hlen := schedW_length bs
  go_enter Tryz.func105, Tryz.ntmps105
  have HS := Lib.hid hsch
  clear hsch
  go_wp2_with fail
  refine HS.out.mono ?_
  rintro e w1 ⟨rfl, b1⟩
  have hsz : ((schedW bs).map wordV).toArray.size = 64 := by simp [hlen]
  generalize hW : schedW bs = W at *
  have HW := Lib.hid hW
  have HLEN := Lib.hid hlen
  clear hW HS hlen
  have hj : (Tryz.prog.info? 136).map (·.size) = some ((W.map wordV).toArray.size) := by rw [hsz]; kernel_rfl
  have ho : (W.map wordV).toArray.all (·.oneCell') = true := by simp [wordV, Value.oneCell']
  have HJ := Lib.hid hj
  have HO := Lib.hid ho
  have HZ := Lib.hid hsz.symm
  clear hj ho hsz
  go_wp2_with (refine wpList_store_made rfl 136 _ _ rfl _ (W.map wordV).toArray 136 rfl rfl HJ.out HZ.out HO.out ?_)
  clear HJ HO HZ
  have bB := b1.alloc b1.size (.cells (W.map wordV).toArray 136)
  have hV := Blk.new w1 136 (W.map wordV)
  have hSz := b1.size
  have hSlt := hS.lt
  generalize w1.alloc (.cells (W.map wordV).toArray 136) = w2 at *
  generalize w1.heap.size = N at *
  have hS' := hS.below bB hSlt
  have hwords : ∀ i, i < 64 → w2.cell? ⟨1, i, none⟩ = some (.int .u32 (u (Kt.getD i 0))) := fun i hi => (bB.cell (p := ⟨1, i, none⟩) (by have := ht.two; simp; omega)).trans (ht.words i hi)
  clear hB b1 ht hS
  have c0 := hS'.cell 0
  have c1 := hS'.cell 1
  have c2 := hS'.cell 2
  have c3 := hS'.cell 3
  have c4 := hS'.cell 4
  have c5 := hS'.cell 5
  have c6 := hS'.cell 6
  have c7 := hS'.cell 7
  obtain ⟨a, b, c, d, e, f, g, h⟩ := s
  simp only [St.vals, St.list, List.map_cons, List.map_nil, wordV, List.getElem?_cons_zero, List.getElem?_cons_succ] at c0 c1 c2 c3 c4 c5 c6 c7
  go_quiet (fail)
  go_wp2
  have hst : ∀ k, (roundsS W ⟨a, b, c, d, e, f, g, h⟩ (k + 1)) = stepS (Kt.getD k 0) (W.getD k 0) (roundsS W ⟨a, b, c, d, e, f, g, h⟩ k) := fun k => rfl
  simp only [stepS, totalS, addedS] at hst
  have HST := Lib.hid hst
  clear hst
  go_loopw [5, 6, 7, 8, 9, 10, 11, 12, 52] (fun va vb vc vd ve vf vg vh i wr => ∃ k : Nat, k ≤ 64 ∧ i = .int .i64 k ∧ va = .int .u32 (u (roundsS W ⟨a, b, c, d, e, f, g, h⟩ k).a) ∧ vb = .int .u32 (u (roundsS W ⟨a, b, c, d, e, f, g, h⟩ k).b) ∧ vc = .int .u32 (u (roundsS W ⟨a, b, c, d, e, f, g, h⟩ k).c) ∧ vd = .int .u32 (u (roundsS W ⟨a, b, c, d, e, f, g, h⟩ k).d) ∧ ve = .int .u32 (u (roundsS W ⟨a, b, c, d, e, f, g, h⟩ k).e) ∧ vf = .int .u32 (u (roundsS W ⟨a, b, c, d, e, f, g, h⟩ k).f) ∧ vg = .int .u32 (u (roundsS W ⟨a, b, c, d, e, f, g, h⟩ k).g) ∧ vh = .int .u32 (u (roundsS W ⟨a, b, c, d, e, f, g, h⟩ k).h) ∧ Same w2 wr) (fun _ _ _ _ _ _ _ _ i _ => 64 - (intOf i).toNat)
  case atStart => exact ⟨0, by omega, rfl, rfl, rfl, rfl, rfl, rfl, rfl, rfl, rfl, (Same.refl _).drewN nq⟩
  case round =>
    obtain ⟨k, hk, rfl, rfl, rfl, rfl, rfl, rfl, rfl, rfl, rfl, hsame⟩ := hrel
    by_cases hlt : k < 64
    · as_aux_lemma =>
        have d0 := (hsame.cell _).trans (hwords k hlt)
        have d1 := (hsame.cell _).trans ((hV.cell k).trans (words_get? W k (by rw [HLEN.out]; exact hlt)))
        have hst := HST.out k
        have HSAME := Lib.hid hsame
        clear hsame hwords hV hS' c0 c1 c2 c3 c4 c5 c6 c7
        generalize roundsS W ⟨a, b, c, d, e, f, g, h⟩ k = R at *
        have HSTEP := Lib.hid hst
        clear hst
        generalize R.a = a at *
        generalize R.b = b at *
        generalize R.c = c at *
        generalize R.d = d at *
        generalize R.e = e at *
        generalize R.f = f at *
        generalize R.g = g at *
        generalize R.h = h at *
        generalize Kt.getD k 0 = kk at *
        generalize W.getD k 0 = ww at *
        have ux := u_xor
        have uand := u_and
        have uadd := u_add
        have unot := u_notx
        clear HST HW HLEN hl bB hSz hSlt
        go_wp2_with fail
        go_quiet ((go_at_call 121; exact Calls.quiet_of_same (high_same _ _)))
        go_wp2_with (go_at_call 122; refine (low_any a _).mono ?_; rintro e w1 ⟨rfl, rfl⟩)
        go_roundw
        case rel =>
          refine ⟨k + 1, by omega, by go_num, ?_, ?_, ?_, ?_, ?_, ?_, ?_, ?_, ?_⟩
          · rw [HSTEP.out, u_add]
          · rw [HSTEP.out]
          · rw [HSTEP.out]
          · rw [HSTEP.out]
          · rw [HSTEP.out, u_add]
          · rw [HSTEP.out]
          · rw [HSTEP.out]
          · rw [HSTEP.out]
          · exact HSAME.out.drewN _
        case measure => simp [intOf]; omega
    · obtain rfl : k = 64 := by omega
      have hmix := mixS_vals ⟨a, b, c, d, e, f, g, h⟩ bs
      rw [HW.out] at hmix
      have hsb := hsame.blk hS'
      have g0 := Lib.grownBy_trans (Lib.grownBy_below (World.grownBy.refl w (some S)) bB) (hsame.grown (some S))
      generalize roundsS W ⟨a, b, c, d, e, f, g, h⟩ 64 = R at *
      have HMIX := Lib.hid hmix
      have hidx := fun (k : Nat) (hk : k < 8) (w : World) => index8 R k hk w
      have hcell := fun (k : Nat) (hk : k < 8) => cell8 ⟨a, b, c, d, e, f, g, h⟩ R k hk
      have hnew := addS_len ⟨a, b, c, d, e, f, g, h⟩ R
      generalize hO : St.vals ⟨a, b, c, d, e, f, g, h⟩ = O at *
      have hO8 : O.length = 8 := by rw [← hO]; rfl
      generalize (addS ⟨a, b, c, d, e, f, g, h⟩ R).vals = NW at *
      clear hmix hsame hS' c0 c1 c2 c3 c4 c5 c6 c7 hwords hV HST HW HLEN hl bB hSz hSlt hk hlt hO
      have HB := Lib.hid hsb
      have HG := Lib.hid g0
      clear hsb g0
      rw [show ((64 : Nat) : Int) = 64 from rfl]
      go_wp2
      go_loopw [112] (fun i wr => ∃ k : Nat, k ≤ 8 ∧ i = .int .i64 k ∧ Blk wr S 134 (partL NW O k) ∧ w.grownBy wr (some S)) (fun i _ => 8 - (intOf i).toNat)
      case atStart => exact ⟨0, by omega, rfl, by rw [partL_zero]; exact HB.out, HG.out⟩
      case round =>
        obtain ⟨k, hk, rfl, hB, hG⟩ := hrel
        by_cases hlt : k < 8
        · have kc := (hB.cell k).trans ((partL_get NW O k (by omega)).trans (hcell k hlt).1)
          have kf := hB.frozen k
          have uadd := u_add
          have hi := hidx k hlt
          have hset := hB.set k (NW[k]'(by omega))
          rw [partL_set NW O k (by omega) (by omega), (List.getElem_eq_iff _).2 (hcell k hlt).2] at hset
          have HSET := Lib.hid hset
          have HGG := Lib.hid hG
          generalize (St.list ⟨a, b, c, d, e, f, g, h⟩).getD k 0 = x at *
          generalize R.list.getD k 0 = y at *
          clear hset hcell hidx hB hG HMIX HB HG hnew hO8
          go_wp2
          go_region
          go_wp2
          go_roundw
          case rel => exact ⟨k + 1, by omega, by go_num, HSET.out, grown_drew (Lib.grownBy_setB HGG.out k _)⟩
          case measure => simp [intOf]; omega
        · obtain rfl : k = 8 := by omega
          have hall := partL_all NW O (by omega)
          rw [hnew] at hall
          rw [hall] at hB
          have HBB := Lib.hid hB
          have HGG := Lib.hid hG
          clear hB hG hall hcell hidx hnew hO8 HB HG
          go_wp2
          go_end0
          rw [HMIX.out]
          exact ⟨rfl, HBB.out, HGG.out⟩
end Go.Proofs.YtggfmnmopfdiaaaGreatDoor
