/-
  Contracts of package disk: leave, Cut.
-/
import Derived.Test.YtffnkomnldgcaaaGreatDoorDk6
namespace Go.Proofs.YtffnkomnldgcaaaGreatDoor
open Go.RowKit Go.Pal Go.Pal.Dk Go.Maps

def Lay.turn (L : Lay) (n : ByteArray) (v : Value) : Lay := ⟨L.map, L.fb, fun m => if m = n then v else L.row m⟩
theorem ext_list (s : ByteArray) (k : Nat) (h : k ≤ s.size) : (s.extract 0 k).data.toList = s.data.toList.take k ∧ (s.extract 0 k).size = k := by
  refine ⟨?_, by rw [ByteArray.size_extract]; omega⟩
  rw [ByteArray.data_extract]
  simp
/-- What is left of a file. -/
theorem leave_post {w w1 w2 : World} {base D : Nat} {d : Dk} {L : Lay} (h : DkAt w base D d L) {n : ByteArray} {f : Fl} (hf : atF d.files n = some f) {k : Nat} (hk : k ≤ f.data.size) {u : Value} {v : Value}
    (hw1 : w1.heap = (w.setCell ⟨D, 1, none⟩ u).heap) (hio : w1.os = w.os ∧ w1.tape = w.tape ∧ w1.output = w.output) (hu : u = .int .i64 ((usedF (modF n (cutF k) d.files) : Nat) : Int)) (hb : Below w1.heap.size w1 w2) (hv : w2.ownsRow base 5 1 v k ((f.data.data.toList.take k).map byteV)) (hvb : ∀ b, v.ownBlock = some b → w1.heap.size ≤ b) :
    Went w base D d L { d with files := modF n (cutF k) d.files } ((w2.setCell ⟨L.fb n, 0, none⟩ v).setCell ⟨L.fb n, 1, none⟩ (.int .i64 (k : Int))) := by
  obtain ⟨hm, hfn⟩ := atF_some hf
  have hsz : w1.heap.size = w.heap.size := by rw [hw1]; simp
  have hne : L.fb n ≠ D := by have := h.ne_fb hm; rwa [hfn] at this
  have hlt : L.fb n < w.heap.size := by have := (h.each f hm).blk.lt; rwa [hfn] at this
  have hD := h.blk.lt
  obtain ⟨e1, e2⟩ := ext_list f.data k hk
  have hused := used_modF (h := cutF k) h.good.sorted hf
  have hle := data_le_used hm
  have hg : ∀ x, x < w.heap.size → x ≠ D → w2.heap[x]? = w.heap[x]? := by
    intro x hx hxd
    rw [hb.block x (by omega), hw1]
    exact Below.heap_setCell w _ _ x hxd
  have hBD : Blk w2 D 54 [.int .i64 (d.room : Int), u, .map L.map, .bool d.on, .bool d.arm.isSome, .int .i64 ((d.arm.getD 0 : Nat) : Int)] := by
    refine Blk.below (w := w1) (n := w1.heap.size) ?_ hb (by omega)
    unfold Blk
    rw [hw1]
    exact h.blk.set 1 u
  have hBF : Blk w2 (L.fb n) 71 [L.row n, .int .i64 (f.safe : Int)] := by
    have := (h.each f hm).blk
    rw [hfn] at this
    exact (hg _ hlt hne).trans this
  have hvne : ∀ b, v.ownBlock = some b → b ≠ L.fb n := fun b hb' e => by have := hvb b hb'; omega
  have ho : Off (fun x => x = D ∨ x = L.fb n ∨ (L.row n).ownBlock = some x) w ((w2.setCell ⟨L.fb n, 0, none⟩ v).setCell ⟨L.fb n, 1, none⟩ (.int .i64 (k : Int))) := by
    have h0 : Off (fun x => x = D ∨ x = L.fb n ∨ (L.row n).ownBlock = some x) w w2 := ⟨hb.os.trans hio.1, hb.tape.trans hio.2.1, hb.output.trans hio.2.2, by have := hb.size; omega, fun x hx hs => hg x hx (fun e => hs (.inl e))⟩
    exact (h0.set (.inr (.inr (.inl rfl))) _).set (.inr (.inr (.inl rfl))) _
  have hfile := h.file (w' := (w2.setCell ⟨L.fb n, 0, none⟩ v).setCell ⟨L.fb n, 1, none⟩ (.int .i64 (k : Int))) (L' := L.turn n v) (g := cutF k) hf (fun _ => rfl) rfl rfl (fun m hm => by simp [Lay.turn, hm])
    (by rw [← hu]; exact (hBD.other (fun e => hne e.symm) _).other (fun e => hne e.symm) _)
    ⟨by
      have hb2 := (hBF.set 0 v).set 1 (.int .i64 (k : Int))
      simp only [cutF, Lay.turn, hfn, if_true]
      exact hb2, by
      simp only [cutF, Lay.turn, hfn, if_true]
      rw [e1, e2]
      refine own_kept hv (fun b hb' => ?_)
      rw [Below.heap_setCell _ _ _ b (hvne b hb'), Below.heap_setCell _ _ _ b (hvne b hb')], by
      have := (h.each f hm).fbase
      simpa [cutF, Lay.turn] using this⟩
    ho (fun b hb' => .inr (by have := hvb b (by simpa [Lay.turn] using hb'); omega)) (by
      have h3 := h.good.used
      simp only [cutF] at hused ⊢
      rw [e2] at hused
      omega) (by simp only [cutF]; omega)
  exact Went.file (d := d) (World.grownBy.refl w _) rfl hf ho hfile

set_option maxHeartbeats 1000000 in
set_option maxRecDepth 100000 in
theorem leave_any {w : World} {base D : Nat} {d : Dk} {L : Lay} (h : DkAt w base D d L) {n : ByteArray} {f : Fl} (hf : atF d.files n = some f) {k : Nat} (hk : k ≤ f.data.size) :
    Calls Tryz.prog 28 #[.pointer (some ⟨D, 0, none⟩), .pointer (some ⟨L.fb n, 0, none⟩), .int .i64 (k : Int)] w fun e w' => e = .returned (.tuple #[]) ∧ Went w base D d L { d with files := modF n (cutF k) d.files } w' := by
  obtain ⟨hm, hfn⟩ := atF_some hf
  have hx := h.each f hm
  have hused := used_modF (h := cutF k) h.good.sorted hf
  have hle := data_le_used hm
  have hroom := h.good.room
  have hul := h.good.used
  obtain ⟨e1, e2⟩ := ext_list f.data k hk
  simp only [cutF] at hused
  rw [e2] at hused
  have hnu : ((usedF d.files : Nat) : Int) - (((f.data.size : Nat) : Int) - (k : Int)) = ((usedF (modF n (cutF k) d.files) : Nat) : Int) := by
    have : usedF (modF n (cutF k) d.files) + f.data.size = usedF d.files + k := hused
    omega
  have c1 : w.cell? ⟨D, 1, none⟩ = some (.int .i64 ((usedF d.files : Nat) : Int)) := h.blk.cell 1
  have fD := h.blk.frozen 1
  have hB := hx.blk
  rw [hfn] at hB
  have k0 := hB.cell 0
  have k1 := hB.cell 1
  have f0 := hB.frozen 0
  have f1 := hB.frozen 1
  have hne : ¬ L.fb n = D := by have := h.ne_fb hm; rwa [hfn] at this
  have hne2 : ¬ D = L.fb n := fun e => hne e.symm
  have hrow := hx.row
  rw [hfn] at hrow
  have HP := Lib.hid (fun w1 w2 u v => @leave_post w w1 w2 base D d L h n f hf k hk u v)
  have hD := h.blk.lt
  have hF := hB.lt
  have hw1 : IntKind.i64.wrap (((f.data.size : Nat) : Int) - (k : Int)) = ((f.data.size : Nat) : Int) - (k : Int) := by rw [IntKind.wrap_i64]; omega
  have hw2 : IntKind.i64.wrap (((usedF d.files : Nat) : Int) - (((f.data.size : Nat) : Int) - (k : Int))) = ((usedF (modF n (cutF k) d.files) : Nat) : Int) := by rw [IntKind.wrap_i64, ← hnu]; omega
  have hgD0 : ∀ b, (L.row n).ownBlock = some b → b ≠ D := fun b hb => h.ne_row hm (by rw [hfn]; exact hb)
  have HNU := Lib.hid hnu
  have hdb := h.dbase
  have hfz : f.data.size ≤ 4194304 := by omega
  clear hnu hused hx h hB
  rcases hrow.2 with ⟨hv, h0⟩ | ⟨g, cap, cur, hv, hbg, hh, hcap, hcm, hcs, htk⟩
  · have hk0 : k = 0 := by omega
    subst hk0
    rw [hv] at k0
    simp only [List.getElem?_cons_zero, List.getElem?_cons_succ] at k0 k1
    rw [h0] at hw1 hw2 HNU
    rw [show ((0 : Nat) : Int) = 0 from rfl] at hw1 hw2 HNU
    have hU : ((usedF d.files : Nat) : Int) = ((usedF (modF n (cutF 0) d.files) : Nat) : Int) := by simpa using HNU.out
    rw [hU] at c1 hw2
    rw [show ((0 : Nat) : Int) = 0 from rfl] at HP ⊢
    have w64 : wrap64 ((usedF (modF n (cutF 0) d.files) : Nat) : Int) = ((usedF (modF n (cutF 0) d.files) : Nat) : Int) := by unfold wrap64; omega
    clear hU HNU hrow hgD0
    generalize L.fb n = F at *
    generalize usedF (modF n (cutF 0) d.files) = U at *
    have HCL := Lib.hid (fun w => clone8_nil w)
    have HN := Lib.hid (fun w => World.ownsRow_nil w base 5 1)
    go_enter Tryz.func28, Tryz.ntmps28
    go_wp2
    go_region
    go_wp2_with fail
    refine (HCL.out _).mono ?_
    rintro e w2 ⟨rfl, rfl⟩
    go_wp2
    go_end0
    exact ⟨rfl, HP.out (w.setCell ⟨D, 1, none⟩ (.int .i64 (U : Int))).drew (w.setCell ⟨D, 1, none⟩ (.int .i64 (U : Int))).drew (.int .i64 (U : Int)) (.slice none 0 0) rfl ⟨rfl, rfl, rfl⟩ rfl (Below.refl _ _) (HN.out _) (fun b hb => by cases hb)⟩
  · rw [hv] at k0
    simp only [List.getElem?_cons_zero, List.getElem?_cons_succ] at k0 k1
    have hglt : g < w.heap.size := (Array.getElem?_eq_some_iff.1 hh).1
    have hgD : g ≠ D := hgD0 g (by rw [hv]; rfl)
    have HL : (f.data.data.toList.take k).length = k := by simp; omega
    have HCL := Lib.hid (fun (W : World) (e : W.heap[g]? = w.heap[g]?) => clone8_any W g cap (f.data.data.toList.take k) (by rw [HL]; omega) (fun j u hj => by
      have hj' : j < k := by have := (List.getElem?_eq_some_iff.1 hj).1; rw [List.length_map, HL] at this; exact this
      rw [World.cell?_of_block (w := w) (a := ⟨g, j, none⟩) e]
      have e3 : w.cell? ⟨g, j, none⟩ = cur.toList[j]? := by simp [World.cell?, hh]
      rw [e3, show cur.toList[j]? = (cur.toList.take (f.data.size * 1))[j]? by rw [List.getElem?_take_of_lt (by omega)], htk]
      rw [List.getElem?_map, List.getElem?_take_of_lt hj', ← List.getElem?_map] at hj
      exact hj))
    rw [HL] at HCL
    clear HL htk hcs hgD0 hrow hv
    generalize L.fb n = F at *
    generalize usedF (modF n (cutF k) d.files) = U at *
    generalize usedF d.files = U0 at *
    generalize f.data.size = z at *
    obtain ⟨u, hu⟩ : ∃ u : Value, u = .int .i64 (U : Int) := ⟨_, rfl⟩
    have HW1 := Lib.hid (HCL.out ((w.setCell ⟨D, 1, none⟩ (.int .i64 (U : Int))).drew) (Below.heap_setCell w _ _ g hgD))
    clear HCL hh
    go_enter Tryz.func28, Tryz.ntmps28
    go_wp2
    go_region
    go_wp2_with fail
    refine HW1.out.mono ?_
    rintro e w2 ⟨⟨v, rfl, hown⟩, hb⟩
    have hsz : (w.setCell ⟨D, 1, none⟩ (.int .i64 (U : Int))).drew.heap.size = w.heap.size := by simp
    rw [hsz] at hown hb
    have blkF : w2.heap[F]? = w.heap[F]? := by rw [hb.block F hF]; exact Below.heap_setCell w _ _ F hne
    have k0' := (World.cell?_of_block (a := ⟨F, 0, none⟩) blkF).trans k0
    have k1' := (World.cell?_of_block (a := ⟨F, 1, none⟩) blkF).trans k1
    have f0' := (World.frozen?_of_block (a := ⟨F, 0, none⟩) blkF).trans f0
    have f1' := (World.frozen?_of_block (a := ⟨F, 1, none⟩) blkF).trans f1
    obtain ⟨p, c, rfl, _, _⟩ := row_form hown
    have HOW := Lib.hid hown
    have HBL := Lib.hid hb
    clear hown hb blkF k0 k1 f0 f1 c1 fD HW1
    go_wp2
    go_end0
    refine ⟨rfl, HP.out (w.setCell ⟨D, 1, none⟩ (.int .i64 (U : Int))).drew w2 (.int .i64 (U : Int)) (.slice p k c) rfl ⟨rfl, rfl, rfl⟩ rfl (by rw [hsz]; exact HBL.out) (own_weak HOW.out (by omega)) (fun b hb => by rw [hsz]; exact (own_lt HOW.out hb).2.1)⟩

theorem Went.after {w w1 w2 : World} {base D : Nat} {d d1 d' : Dk} {L : Lay} (g1 : w.grownBy w1 (some D)) (hfs : d1.files = d.files) (h : Went w1 base D d1 L d' w2) : Went w base D d L d' w2 := by
  obtain ⟨L', h1, h2, h3⟩ := h
  refine ⟨L', h1, ((Off.of_grown g1).mono (T := Foot D d.files L) (fun g _ e => .inl (by simpa using e.symm))).trans h2 (fun g _ hg => by rw [← hfs]; exact hg), fun x hx => ?_⟩
  rcases h3 x hx with h4 | h4
  · exact .inl (by rw [← hfs]; exact h4)
  · exact .inr (Nat.le_trans g1.size h4)

set_option maxHeartbeats 1000000 in
set_option maxRecDepth 100000 in
theorem cut_any {w : World} {base D : Nat} {d : Dk} {L : Lay} (h : DkAt w base D d L) (n : ByteArray) (hn : n.size ≤ maxLen) (k : Int) (hk1 : -9223372036854775808 ≤ k) (hk2 : k ≤ 9223372036854775807) :
    Calls Tryz.prog 49 #[.pointer (some ⟨D, 0, none⟩), .string n, .int .i64 k] w fun e w' => e = .returned (.int .i64 (cutD d n k).1) ∧ Went w base D d L (cutD d n k).2 w' := by
  have HG := Lib.hid (begin_any h n)
  have hfs := (begD_files d).1
  clear h
  by_cases hE : begE d n = 0
  · rw [hE] at HG
    cases hf : atF d.files n with
    | none =>
      have HR := Lib.hid (show cutD d n k = (10, (begD d).2) by unfold cutD; rw [if_neg (by simp [hE]), hf])
      clear hE
      generalize cutD d n k = R at *
      generalize (begD d).2 = d1 at *
      go_enter Tryz.func49, Tryz.ntmps49
      go_wp2_with fail
      refine HG.out.mono ?_
      rintro e w1 ⟨rfl, h1, g1⟩
      have c2 : w1.cell? ⟨D, 2, none⟩ = some (.map L.map) := h1.blk.cell 2
      have hl := h1.look n hn
      rw [hfs, ptrV_none hf] at hl
      have H1 := Lib.hid h1
      have G1 := Lib.hid g1
      clear h1 g1 hf
      go_wp2
      go_ret
      exact ⟨by rw [HR.out]; rfl, by rw [HR.out]; exact Went.head H1.out hfs G1.out⟩
    | some f =>
      by_cases hbad : k < 0 ∨ (f.data.size : Int) < k
      · have HR := Lib.hid (show cutD d n k = (1, (begD d).2) by unfold cutD; rw [if_neg (by simp [hE]), hf]; simp only []; rw [if_pos hbad])
        clear hE
        generalize cutD d n k = R at *
        generalize (begD d).2 = d1 at *
        go_enter Tryz.func49, Tryz.ntmps49
        go_wp2_with fail
        refine HG.out.mono ?_
        rintro e w1 ⟨rfl, h1, g1⟩
        have c2 : w1.cell? ⟨D, 2, none⟩ = some (.map L.map) := h1.blk.cell 2
        have hl := h1.look n hn
        rw [hfs, ptrV_some hf] at hl
        obtain ⟨hm, hfn⟩ := atF_some hf
        have hx := h1.each f (by rw [hfs]; exact hm)
        obtain ⟨p, cap, hv, _, _⟩ := row_form hx.row
        have hB := hx.blk
        rw [hfn] at hB hv
        have k0 := hB.cell 0
        rw [hv] at k0
        simp only [List.getElem?_cons_zero] at k0
        have H1 := Lib.hid h1
        have G1 := Lib.hid g1
        clear h1 g1 hf hx hm hB hv hfn
        by_cases hneg : k < 0
        · have d1' : decide (k < 0) = true := decide_eq_true hneg
          clear hbad hneg
          go_wp2
          go_ret
          exact ⟨by rw [HR.out]; rfl, by rw [HR.out]; exact Went.head H1.out hfs G1.out⟩
        · have d1' : decide (k < 0) = false := decide_eq_false hneg
          have d2' : decide ((f.data.size : Int) < k) = true := decide_eq_true (by omega)
          clear hbad hneg
          go_wp2
          go_ret
          exact ⟨by rw [HR.out]; rfl, by rw [HR.out]; exact Went.head H1.out hfs G1.out⟩
      · have HR := Lib.hid (show cutD d n k = (0, { (begD d).2 with files := modF n (cutF k.toNat) d.files }) by unfold cutD; rw [if_neg (by simp [hE]), hf]; simp only []; rw [if_neg hbad])
        obtain ⟨m, rfl⟩ := Int.eq_ofNat_of_zero_le (a := k) (by omega)
        have hmz : m ≤ f.data.size := by omega
        have d1' : decide ((m : Int) < 0) = false := decide_eq_false (by omega)
        have d2' : decide ((f.data.size : Int) < (m : Int)) = false := decide_eq_false (by omega)
        rw [Int.toNat_natCast] at HR
        clear hE hbad
        generalize cutD d n (m : Int) = R at *
        generalize (begD d).2 = d1 at *
        go_enter Tryz.func49, Tryz.ntmps49
        go_wp2_with fail
        refine HG.out.mono ?_
        rintro e w1 ⟨rfl, h1, g1⟩
        have c2 : w1.cell? ⟨D, 2, none⟩ = some (.map L.map) := h1.blk.cell 2
        have hl := h1.look n hn
        rw [hfs, ptrV_some hf] at hl
        obtain ⟨hm, hfn⟩ := atF_some hf
        have hx := h1.each f (by rw [hfs]; exact hm)
        obtain ⟨p, cap, hv, _, _⟩ := row_form hx.row
        have hB := hx.blk
        rw [hfn] at hB hv
        have k0 := hB.cell 0
        rw [hv] at k0
        simp only [List.getElem?_cons_zero] at k0
        have HLV := Lib.hid (leave_any h1 (n := n) (f := f) (by rw [hfs]; exact hf) hmz)
        rw [hfs] at HLV
        have G1 := Lib.hid g1
        clear h1 g1 hf hx hm hB hv hfn
        go_wp2_with fail
        refine HLV.out.mono ?_
        rintro e w2 ⟨rfl, hw⟩
        have HW := Lib.hid hw
        clear hw HLV
        go_wp2
        go_ret
        exact ⟨by rw [HR.out]; rfl, by rw [HR.out]; exact Went.after G1.out hfs HW.out⟩
  · have HR := Lib.hid (show cutD d n k = (begE d n, (begD d).2) by unfold cutD; rw [if_pos hE])
    have hb : (begE d n != 0) = true := bne_iff_ne.2 hE
    clear hE
    generalize cutD d n k = R at *
    generalize (begD d).2 = d1 at *
    generalize begE d n = E at *
    go_enter Tryz.func49, Tryz.ntmps49
    go_wp2_with fail
    refine HG.out.mono ?_
    rintro e w1 ⟨rfl, h1, g1⟩
    have H1 := Lib.hid h1
    have G1 := Lib.hid g1
    clear h1 g1
    go_wp2
    go_ret
    exact ⟨by rw [HR.out]; rfl, by rw [HR.out]; exact Went.head H1.out hfs G1.out⟩
set_option maxHeartbeats 400000 in
set_option maxRecDepth 100000 in
theorem cut_nil (w : World) (n : ByteArray) (k : Int) :
    Calls Tryz.prog 49 #[.pointer none, .string n, .int .i64 k] w fun e w' => e = .returned (.int .i64 1) ∧ w' = w := by
  go_enter Tryz.func49, Tryz.ntmps49
  go_wp2_with (go_at_call 64; refine (begin_nil _ _).mono ?_; rintro e w' ⟨rfl, rfl⟩)
  go_ret
  exact ⟨rfl, rfl⟩
set_option maxHeartbeats 400000 in
set_option maxRecDepth 100000 in
theorem dread_nil (w : World) (n : ByteArray) :
    Calls Tryz.prog 46 #[.pointer none, .string n] w fun e w' => e = .returned (.tuple #[.string ByteArray.empty, .int .i64 1]) ∧ w' = w := by
  go_enter Tryz.func46, Tryz.ntmps46
  go_wp2
  go_ret2
  exact ⟨rfl, rfl⟩
end Go.Proofs.YtffnkomnldgcaaaGreatDoor
