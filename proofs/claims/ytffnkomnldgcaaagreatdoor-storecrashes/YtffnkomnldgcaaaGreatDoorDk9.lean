/-
  A file with bytes behind its own; contract of Append.
-/
import Derived.Test.YtffnkomnldgcaaaGreatDoorDk8
namespace Go.Pal
open Go.RowKit
/-- A text behind a row of the call's own: the row that comes of it is the old one, or a new one. -/
theorem append_text {P : Program} (w : World) (base : Nat) (t u ty e : TypeId) (i : TypeInfo) (ht : P.underlying t = some (.slice e)) (hu : P.underlying u = some .string) (hi : P.info? e = some i) (hz : i.zero = some (.int .u8 0))
    (hsize : i.size = 1) (hby : i.bytes = 1) (v : Value) (n : Nat) (xs : List Value) (hown : w.ownsRow base e 1 v n xs) (s : ByteArray) (h63 : n + s.size ≤ 1000000000) (hbase : base ≤ w.heap.size) :
    ∃ p cap w', (Builtin.append_ #[t, u] ty #[v, .string s]).run P w = .ok (.slice p (n + s.size) cap) w' ∧ w'.ownsRow base e 1 (.slice p (n + s.size) cap) (n + s.size) (xs ++ Lib.strCells s) ∧ w.grownBy w' v.ownBlock ∧
      ∀ b, (Value.slice p (n + s.size) cap).ownBlock = some b → v.ownBlock = some b ∨ w.heap.size ≤ b := by
  obtain ⟨v', w', hr, ho, hg, hn⟩ := Lib.run_append_own_string (P := P) w base t u ty e i ht hu hi hz hsize hby v n xs hown s (by unfold maxLen; omega) (by omega) hbase
  have fin : (∀ b, v'.ownBlock = some b → v.ownBlock = some b ∨ w.heap.size ≤ b) → ∃ p cap w', (Builtin.append_ #[t, u] ty #[v, .string s]).run P w = .ok (.slice p (n + s.size) cap) w' ∧ w'.ownsRow base e 1 (.slice p (n + s.size) cap) (n + s.size) (xs ++ Lib.strCells s) ∧ w.grownBy w' v.ownBlock ∧
      ∀ b, (Value.slice p (n + s.size) cap).ownBlock = some b → v.ownBlock = some b ∨ w.heap.size ≤ b := by
    intro hb
    have ho' := ho
    rcases ho.2 with ⟨rfl, h0⟩ | ⟨g, cap, cur, rfl, _⟩
    · rw [h0] at ho' ⊢
      exact ⟨none, 0, w', hr, ho', hg, hb⟩
    · exact ⟨_, cap, w', hr, ho', hg, hb⟩
  refine fin ?_
  have uniq : ∀ {a b : Value} {w1 w2 : World}, (Builtin.append_ #[t, u] ty #[v, .string s]).run P w = .ok a w1 → (Builtin.append_ #[t, u] ty #[v, .string s]).run P w = .ok b w2 → a = b := by
    intro a b w1 w2 h1 h2
    rw [h1] at h2
    injection h2
  rcases hown.2 with ⟨rfl, rfl⟩ | ⟨g, cap, cur, rfl, hbg, hgr, hnc, hcm, hcs, htake⟩
  · by_cases hm : s.size = 0
    · rw [hn.2 ⟨rfl, hm⟩]
      intro b hb; cases hb
    · have h2 := run_append_nil_string (P := P) w t u ty e i (.int .u8 0) ht hu hi hz s (by omega) (by omega) (by rw [hby]; omega)
      rw [uniq hr h2]
      intro b hb
      right
      simp [Value.ownBlock] at hb; omega
  · by_cases hroom : n + s.size ≤ cap
    · have h2 := Lib.run_append_room_string (P := P) w t u ty e i ht hu hi hsize g n cap cur hgr s hroom (by omega)
      rw [uniq hr h2]
      intro b hb
      exact .inl hb
    · have h2 := Lib.run_append_grow_string (P := P) w t u ty e i (.int .u8 0) ht hu hi hz ⟨g, 0, none⟩ n cap xs (by rw [hsize]; exact hown.1) (hown.cells (g := g) rfl) s (by omega) (by omega) (by rw [hby]; exact growslice_fits (by omega) (by omega))
      rw [uniq hr h2]
      intro b hb
      right
      simp [Value.ownBlock] at hb; omega
theorem wpList_append_text {P : Program} (w : World) {ops : Array Oper} {rest : List Oper} {o : Oper} {a : Act} {Q : Exit → Act → World → Prop} (hgd : o.guard = none) (sl x : Operand) (t u : TypeId)
    (ho : o.op = .call { callee := .builtin .append, args := #[sl, x], argTypes := #[t, u] })
    (base : Nat) (e : TypeId) (i : TypeInfo) (ht : P.underlying t = some (.slice e)) (hu : P.underlying u = some .string) (hi : P.info? e = some i) (hz : i.zero = some (.int .u8 0)) (hsize : i.size = 1) (hby : i.bytes = 1)
    (v : Value) (n : Nat) (xs : List Value) (hs : a.eval sl = v) (hown : w.ownsRow base e 1 v n xs) (s : ByteArray) (hx : a.eval x = .string s) (h63 : n + s.size ≤ 1000000000) (hbase : base ≤ w.heap.size)
    (h : ∀ p cap w', w'.ownsRow base e 1 (.slice p (n + s.size) cap) (n + s.size) (xs ++ Lib.strCells s) → w.grownBy w' v.ownBlock → (∀ b, (Value.slice p (n + s.size) cap).ownBlock = some b → v.ownBlock = some b ∨ w.heap.size ≤ b) → wpList P ops Q rest (a.put o.dst (.slice p (n + s.size) cap)) w') : wpList P ops Q (o :: rest) a w := by
  refine wpList_plain hgd fun K hK => ?_
  obtain ⟨p, cap, w', hr, h2, h3, h4⟩ := append_text (P := P) w base t u o.type e i ht hu hi hz hsize hby v n xs hown s h63 hbase
  unfold Oper.wp
  simp [execOp, ho, resolve, invoke, builtin, hs, hx, hr, Result.andThen]
  exact hK _ _ (h p cap w' h2 h3 h4)
end Go.Pal
namespace Go.Proofs.YtffnkomnldgcaaaGreatDoor
open Go.RowKit Go.Pal Go.Pal.Dk Go.Maps

theorem mod_ins {x : Fl} {l : List Fl} (hn : ∀ f ∈ l, f.name ≠ x.name) (g : Fl → Fl) (hg : (g x).name = x.name) : modF x.name g (insF x l) = insF (g x) l := by
  induction l with
  | nil => simp [insF, modF]
  | cons a r ih =>
    have ih' := ih (fun f hf => hn f (List.mem_cons_of_mem _ hf))
    have ha := hn a List.mem_cons_self
    unfold insF
    rw [hg]
    split
    · show (if a.name = x.name then g a else a) :: modF x.name g (insF x r) = _
      rw [if_neg ha, ih']
    · show (if x.name = x.name then g x else x) :: modF x.name g (a :: r) = _
      rw [if_pos rfl, modF_same hn]
theorem used_more {l : List Fl} (hs : SortedF l) {n s : ByteArray} {f : Fl} (hf : atF l n = some f) : usedF (modF n (more s) l) = usedF l + s.size := by
  have := used_modF (h := more s) hs hf
  simp only [more, ByteArray.size_append] at this
  omega
/-- Bytes behind a file's. -/
theorem more_post {w w1 : World} {base D : Nat} {d : Dk} {L : Lay} (h : DkAt w base D d L) {n s : ByteArray} {f : Fl} (hf : atF d.files n = some f) (hr : usedF d.files + s.size ≤ d.room) {v : Value}
    (hv : w1.ownsRow base 5 1 v (f.data.size + s.size) (f.data.data.toList.map byteV ++ Lib.strCells s)) (hg : w.grownBy w1 (L.row n).ownBlock) (hvb : ∀ b, v.ownBlock = some b → (L.row n).ownBlock = some b ∨ w.heap.size ≤ b) :
    Went w base D d L { d with files := modF n (more s) d.files } ((w1.setCell ⟨L.fb n, 0, none⟩ v).setCell ⟨D, 1, none⟩ (.int .i64 ((usedF d.files : Int) + (s.size : Int)))) := by
  obtain ⟨hm, hfn⟩ := atF_some hf
  have hne : L.fb n ≠ D := by have := h.ne_fb hm; rwa [hfn] at this
  have hlt : L.fb n < w.heap.size := by have := (h.each f hm).blk.lt; rwa [hfn] at this
  have hrb : ∀ b, (L.row n).ownBlock = some b → b ≠ D ∧ b ≠ L.fb n := fun b hb => ⟨h.ne_row hm (by rw [hfn]; exact hb), by have := h.fb_row hm hm (b := b) (by rw [hfn]; exact hb); rwa [hfn] at this⟩
  have hvne : ∀ b, v.ownBlock = some b → b ≠ D ∧ b ≠ L.fb n := fun b hb => by
    rcases hvb b hb with h1 | h1
    · exact hrb b h1
    · have := h.blk.lt; exact ⟨by omega, by omega⟩
  have hBD : Blk w1 D 54 [.int .i64 (d.room : Int), .int .i64 (usedF d.files : Int), .map L.map, .bool d.on, .bool d.arm.isSome, .int .i64 ((d.arm.getD 0 : Nat) : Int)] := h.blk.grown hg (fun e => (hrb D e.symm).1 rfl)
  have hBF : Blk w1 (L.fb n) 71 [L.row n, .int .i64 (f.safe : Int)] := by
    have := (h.each f hm).blk
    rw [hfn] at this
    exact this.grown hg (fun e => (hrb _ e.symm).2 rfl)
  have hu := used_more (s := s) h.good.sorted hf
  have ho : Off (fun x => x = D ∨ x = L.fb n ∨ (L.row n).ownBlock = some x) w ((w1.setCell ⟨L.fb n, 0, none⟩ v).setCell ⟨D, 1, none⟩ (.int .i64 ((usedF d.files : Int) + (s.size : Int)))) :=
    ((((Off.of_grown hg).mono (fun g _ e => .inr (.inr e))).set (.inr (.inr (.inl rfl))) _).set (.inr (.inl rfl)) _)
  have hfile := h.file (w' := (w1.setCell ⟨L.fb n, 0, none⟩ v).setCell ⟨D, 1, none⟩ (.int .i64 ((usedF d.files : Int) + (s.size : Int)))) (L' := L.turn n v) (g := more s) hf (fun _ => rfl) rfl rfl (fun m hm => by simp [Lay.turn, hm])
    (by
      have h1 := (hBD.other (p := ⟨L.fb n, 0, none⟩) (fun e => hne e.symm) v).set 1 (.int .i64 ((usedF d.files : Int) + (s.size : Int)))
      rw [hu, Int.natCast_add]
      exact h1)
    ⟨by
      have hb2 := (hBF.set 0 v).other (p := ⟨D, 1, none⟩) hne (.int .i64 ((usedF d.files : Int) + (s.size : Int)))
      simp only [more, Lay.turn, hfn, if_true]
      exact hb2, by
      simp only [more, Lay.turn, hfn, if_true, ByteArray.size_append, ByteArray.data_append, Array.toList_append, List.map_append]
      refine own_kept (w := w1) (by exact hv) (fun b hb' => ?_)
      rw [Below.heap_setCell _ _ _ b (hvne b hb').1, Below.heap_setCell _ _ _ b (hvne b hb').2], by
      have := (h.each f hm).fbase
      simpa [more, Lay.turn] using this⟩
    ho (fun b hb' => hvb b (by simpa [Lay.turn] using hb')) (by rw [hu]; exact hr) (by
      have := h.good.safe f hm
      simp only [more, ByteArray.size_append]; omega)
  exact Went.file (d := d) (World.grownBy.refl w _) rfl hf ho hfile

theorem Went.then {w w1 w2 : World} {base D : Nat} {d d1 d' : Dk} {L L1 : Lay} (o1 : Off (Foot D d.files L) w w1) (f1 : ∀ x, Foot D d1.files L1 x → Foot D d.files L x ∨ w.heap.size ≤ x) (h : Went w1 base D d1 L1 d' w2) : Went w base D d L d' w2 := by
  obtain ⟨L', h1, h2, h3⟩ := h
  refine ⟨L', h1, o1.trans h2 (fun g hg hf => ?_), fun x hx => ?_⟩
  · rcases f1 g hf with h4 | h4
    · exact h4
    · omega
  · rcases h3 x hx with h4 | h4
    · exact f1 x h4
    · exact .inr (Nat.le_trans o1.size h4)

set_option maxHeartbeats 1000000 in
set_option maxRecDepth 100000 in
theorem append_any {w : World} {base D : Nat} {d : Dk} {L : Lay} (h : DkAt w base D d L) (n s : ByteArray) (hn : n.size ≤ maxLen) (hs : s.size ≤ maxLen) (hlen : d.files.length ≤ 1000000000) :
    Calls Tryz.prog 59 #[.pointer (some ⟨D, 0, none⟩), .string n, .string s] w fun e w' => e = .returned (.int .i64 (appendD d n s).1) ∧ Went w base D d L (appendD d n s).2 w' := by
  unfold maxLen at hs
  obtain ⟨i0, hi0, hz0, hz1, hz2⟩ := info_parts (show (Tryz.prog.info? 5).map (fun i => (i.zero, i.size, i.bytes)) = some (some (.int .u8 0), 1, 1) by kernel_rfl)
  have HG := Lib.hid (begin_any h n)
  have hfs := (begD_files d).1
  have hrm := (begD_files d).2
  have hul := h.good.used
  have hrl := h.good.room
  clear h
  by_cases hE : begE d n = 0
  · have hnm : n.size ≤ 32 := by
      unfold begE at hE
      by_cases h1 : (begD d).1 = false
      · rw [if_pos h1] at hE; cases hE
      · rw [if_neg h1] at hE
        by_cases h2 : nameOk n = false
        · rw [if_pos h2] at hE; cases hE
        · simp [nameOk] at h2; omega
    rw [hE] at HG
    have hsub : ((d.room : Nat) : Int) - ((usedF d.files : Nat) : Int) = ((d.room - usedF d.files : Nat) : Int) := by omega
    have hws : IntKind.i64.wrap (((d.room : Nat) : Int) - ((usedF d.files : Nat) : Int)) = ((d.room - usedF d.files : Nat) : Int) := by rw [IntKind.wrap_i64, hsub]; omega
    by_cases hbig : d.room - usedF d.files < s.size
    · have HR := Lib.hid (show appendD d n s = (6, (begD d).2) by unfold appendD; rw [if_neg (by simp [hE]), if_pos hbig])
      have dd : decide (((d.room - usedF d.files : Nat) : Int) < (s.size : Int)) = true := decide_eq_true (by omega)
      clear hE
      generalize appendD d n s = R at *
      generalize (begD d).2 = d1 at *
      go_enter Tryz.func59, Tryz.ntmps59
      go_wp2_with fail
      refine HG.out.mono ?_
      rintro e w1 ⟨rfl, h1, g1⟩
      have c0 : w1.cell? ⟨D, 0, none⟩ = some (.int .i64 (d.room : Int)) := by rw [← hrm]; exact h1.blk.cell 0
      have c1 : w1.cell? ⟨D, 1, none⟩ = some (.int .i64 (usedF d.files : Int)) := by rw [← hfs]; exact h1.blk.cell 1
      have H1 := Lib.hid h1
      have G1 := Lib.hid g1
      clear h1 g1 hsub
      generalize d.room - usedF d.files = left at *
      generalize usedF d.files = U at *
      go_wp2
      go_region
      all_goals
        go_wp2
        go_ret
        exact ⟨by rw [HR.out]; rfl, by rw [HR.out]; exact Went.head H1.out.drew hfs (grown_drew G1.out)⟩
    · have hd0 : decide (((d.room - usedF d.files : Nat) : Int) < (s.size : Int)) = false := decide_eq_false (by omega)
      have HR := Lib.hid (show appendD d n s = (0, { (begD d).2 with files := putF n s d.files }) by unfold appendD; rw [if_neg (by simp [hE]), if_neg hbig])
      have hsr : usedF d.files + s.size ≤ d.room := by omega
      have hss : s.size ≤ 4194304 := by omega
      have hsum : IntKind.i64.wrap (((usedF d.files : Nat) : Int) + (s.size : Int)) = ((usedF d.files : Nat) : Int) + (s.size : Int) := by rw [IntKind.wrap_i64]; omega
      clear hE
      generalize appendD d n s = R at *
      generalize (begD d).2 = d1 at *
      go_enter Tryz.func59, Tryz.ntmps59
      go_wp2_with fail
      refine HG.out.mono ?_
      rintro e w1 ⟨rfl, h1, g1⟩
      have c0 : w1.cell? ⟨D, 0, none⟩ = some (.int .i64 (d.room : Int)) := by rw [← hrm]; exact h1.blk.cell 0
      have c1 : w1.cell? ⟨D, 1, none⟩ = some (.int .i64 (usedF d.files : Int)) := by rw [← hfs]; exact h1.blk.cell 1
      have c2 : w1.cell? ⟨D, 2, none⟩ = some (.map L.map) := h1.blk.cell 2
      have hl := h1.drew.look n hn
      have HX := Lib.hid h1.drew
      have G1 := Lib.hid (grown_drew g1)
      have HULE := Lib.hid (show usedF d1.files = usedF d.files by rw [hfs])
      clear h1 g1 hsub
      cases hf : atF d.files n with
      | some f =>
        rw [hfs, ptrV_some hf] at hl
        have HPF := Lib.hid (show putF n s d.files = modF n (more s) d.files by unfold putF; rw [hf])
        have HF1 := Lib.hid (show atF d1.files n = some f by rw [hfs]; exact hf)
        clear hf
        generalize d.room - usedF d.files = left at *
        go_wp2
        go_region
        all_goals
          obtain ⟨hm, hfn⟩ := atF_some (show atF d1.files n = some f from HF1.out)
          have hx := HX.out.each f hm
          obtain ⟨p, cap, hv, _, _⟩ := row_form hx.row
          have hB := hx.blk
          have hRw := hx.row
          have hne := HX.out.ne_fb hm
          have hrD : ∀ b, (L.row n).ownBlock = some b → b ≠ D := fun b hb => HX.out.ne_row hm (by rw [hfn]; exact hb)
          have hrF : ∀ b, (L.row n).ownBlock = some b → b ≠ L.fb n := fun b hb => by have := HX.out.fb_row hm hm (b := b) (by rw [hfn]; exact hb); rwa [hfn] at this
          rw [hfn] at hB hv hRw hne
          have k0 := hB.cell 0
          rw [hv] at k0 hRw
          simp only [List.getElem?_cons_zero] at k0
          have hfz : f.data.size ≤ 4194304 := by have := data_le_used hm; have h3 := HX.out.good.used; have h4 := HX.out.good.room; omega
          have HV := Lib.hid hv
          have HB := Lib.hid hB
          have HRW := Lib.hid hRw
          have HRD := Lib.hid hrD
          have HRF := Lib.hid hrF
          have HDB := Lib.hid (show base ≤ w1.drew.heap.size from Nat.le_trans HX.out.dbase (Nat.le_of_lt HX.out.blk.lt))
          have H63 := Lib.hid (show f.data.size + s.size ≤ 1000000000 by omega)
          have I0 := Lib.hid hi0
          have Z0 := Lib.hid hz0
          have Z1 := Lib.hid hz1
          have Z2 := Lib.hid hz2
          have hne2 : ¬ D = L.fb n := fun e => hne e.symm
          clear hv hB hRw hrD hrF hx hm hfn hi0 hz0 hz1 hz2
          generalize hF : L.fb n = F at *
          go_wp2_with (at_builtin; refine wpList_append_text _ rfl _ _ 69 9 rfl base 5 i0 Tryz.underlying69 Tryz.underlying9 I0.out Z0.out Z1.out Z2.out _ f.data.size (f.data.data.toList.map byteV) rfl HRW.out s rfl H63.out HDB.out ?_)
          intro p2 cap2 w3 hown3 hg3 hb3
          rw [← HV.out] at hg3 hb3
          have BF3 := HB.out.grown hg3 (fun e => HRF.out _ e.symm rfl)
          have BD3 := HX.out.blk.grown hg3 (fun e => HRD.out _ e.symm rfl)
          have k0' : w3.cell? ⟨F, 0, none⟩ = some (L.row n) := BF3.cell 0
          have f0' := BF3.frozen 0
          have c1' : w3.cell? ⟨D, 1, none⟩ = some (.int .i64 ((usedF d1.files : Nat) : Int)) := BD3.cell 1
          have f1' := BD3.frozen 1
          rw [HV.out] at k0'
          have O3 := Lib.hid hown3
          have G3 := Lib.hid hg3
          have B3 := Lib.hid hb3
          have HUE := Lib.hid (show usedF d1.files = usedF d.files from HULE.out)
          rw [HUE.out] at c1'
          clear hown3 hg3 hb3 BF3 BD3 k0
          go_wp2
          go_ret
          refine ⟨by rw [HR.out]; rfl, ?_⟩
          rw [HR.out]
          have hW := more_post HX.out (n := n) (s := s) (f := f) HF1.out (by rw [HULE.out, hrm]; exact hsr) O3.out G3.out B3.out
          rw [hF, HUE.out] at hW
          have hW2 := Went.after (d := d) G1.out hfs hW
          rw [HPF.out]
          rw [hfs] at hW2
          exact hW2
      | none =>
        rw [hfs, ptrV_none hf] at hl
        have HPF := Lib.hid (show putF n s d.files = insF ⟨n, s, 0⟩ d.files by unfold putF; rw [hf])
        have hf1 : atF d1.files n = none := by rw [hfs]; exact hf
        have HAD := Lib.hid (add_any HX.out hf1 hnm (by rw [hfs]; exact hlen))
        have HMI := Lib.hid (show modF n (more s) (insF ⟨n, ByteArray.empty, 0⟩ d1.files) = insF ⟨n, s, 0⟩ d.files by
          have h1 := mod_ins (x := ⟨n, ByteArray.empty, 0⟩) (l := d1.files) (atF_none hf1) (more s) rfl
          rw [hfs] at h1 ⊢
          have h2 : more s ⟨n, ByteArray.empty, 0⟩ = ⟨n, s, 0⟩ := by
            unfold more
            simp only [Fl.mk.injEq, true_and, and_true]
            rw [ByteArray.ext_iff]; simp
          rw [h2] at h1
          exact h1)
        have HA2 := Lib.hid (show atF (insF ⟨n, ByteArray.empty, 0⟩ d1.files) n = some ⟨n, ByteArray.empty, 0⟩ by rw [atF_insF (x := ⟨n, ByteArray.empty, 0⟩) (atF_none hf1)]; simp)
        have HU2 := Lib.hid (show usedF (insF ⟨n, ByteArray.empty, 0⟩ d1.files) = usedF d.files by rw [used_insF, HULE.out]; show 0 + _ = _; omega)
        clear hf hf1
        generalize d.room - usedF d.files = left at *
        go_wp2
        go_region
        all_goals
          go_wp2_with fail
          refine HAD.out.mono ?_
          rintro e w2 ⟨L2, rfl, h2, o2, ft2⟩
          have hrm2 : ({ d1 with files := insF ⟨n, ByteArray.empty, 0⟩ d1.files } : Dk).room = d.room := hrm
          have hfs2 : ({ d1 with files := insF ⟨n, ByteArray.empty, 0⟩ d1.files } : Dk).files = insF ⟨n, ByteArray.empty, 0⟩ d1.files := rfl
          have HD2 := Lib.hid (show ({ ({ d1 with files := insF ⟨n, ByteArray.empty, 0⟩ d1.files } : Dk) with files := modF n (more s) (insF ⟨n, ByteArray.empty, 0⟩ d1.files) } : Dk) = { d1 with files := insF ⟨n, s, 0⟩ d.files } by rw [HMI.out])
          have HA3 := Lib.hid (show atF ({ d1 with files := insF ⟨n, ByteArray.empty, 0⟩ d1.files } : Dk).files n = some ⟨n, ByteArray.empty, 0⟩ from HA2.out)
          have HU3 := Lib.hid (show usedF ({ d1 with files := insF ⟨n, ByteArray.empty, 0⟩ d1.files } : Dk).files = usedF d.files from HU2.out)
          have OX := Lib.hid o2
          have FX := Lib.hid ft2
          clear HX o2 ft2 HAD hl c0 c1 c2
          have HX := Lib.hid h2
          clear h2
          generalize hd2 : ({ d1 with files := insF ⟨n, ByteArray.empty, 0⟩ d1.files } : Dk) = d2 at *
          obtain ⟨f0, hf0⟩ : ∃ f0 : Fl, f0 = ⟨n, ByteArray.empty, 0⟩ := ⟨_, rfl⟩
          rw [← hf0] at HA3
          clear hf0
          obtain ⟨hm, hfn⟩ := atF_some (show atF d2.files n = some f0 from HA3.out)
          have hx := HX.out.each f0 hm
          obtain ⟨p, cap, hv, _, _⟩ := row_form hx.row
          have hB := hx.blk
          have hRw := hx.row
          have hne := HX.out.ne_fb hm
          have hrD : ∀ b, (L2.row n).ownBlock = some b → b ≠ D := fun b hb => HX.out.ne_row hm (by rw [hfn]; exact hb)
          have hrF : ∀ b, (L2.row n).ownBlock = some b → b ≠ L2.fb n := fun b hb => by have := HX.out.fb_row hm hm (b := b) (by rw [hfn]; exact hb); rwa [hfn] at this
          rw [hfn] at hB hv hRw hne
          have k0 := hB.cell 0
          rw [hv] at k0 hRw
          simp only [List.getElem?_cons_zero] at k0
          have hfz : f0.data.size ≤ 4194304 := by have := data_le_used hm; have h3 := HX.out.good.used; have h4 := HX.out.good.room; omega
          have HV := Lib.hid hv
          have HB := Lib.hid hB
          have HRW := Lib.hid hRw
          have HRD := Lib.hid hrD
          have HRF := Lib.hid hrF
          have HDB := Lib.hid (show base ≤ w2.heap.size from Nat.le_trans HX.out.dbase (Nat.le_of_lt HX.out.blk.lt))
          have H63 := Lib.hid (show f0.data.size + s.size ≤ 1000000000 by omega)
          have I0 := Lib.hid hi0
          have Z0 := Lib.hid hz0
          have Z1 := Lib.hid hz1
          have Z2 := Lib.hid hz2
          have hne2 : ¬ D = L2.fb n := fun e => hne e.symm
          clear hv hB hRw hrD hrF hx hm hfn hi0 hz0 hz1 hz2
          generalize hF : L2.fb n = F at *
          go_wp2_with (at_builtin; refine wpList_append_text _ rfl _ _ 69 9 rfl base 5 i0 Tryz.underlying69 Tryz.underlying9 I0.out Z0.out Z1.out Z2.out _ f0.data.size (f0.data.data.toList.map byteV) rfl HRW.out s rfl H63.out HDB.out ?_)
          intro p2 cap2 w3 hown3 hg3 hb3
          rw [← HV.out] at hg3 hb3
          have BF3 := HB.out.grown hg3 (fun e => HRF.out _ e.symm rfl)
          have BD3 := HX.out.blk.grown hg3 (fun e => HRD.out _ e.symm rfl)
          have k0' : w3.cell? ⟨F, 0, none⟩ = some (L2.row n) := BF3.cell 0
          have f0' := BF3.frozen 0
          have c1' : w3.cell? ⟨D, 1, none⟩ = some (.int .i64 ((usedF d2.files : Nat) : Int)) := BD3.cell 1
          have f1' := BD3.frozen 1
          rw [HV.out] at k0'
          have O3 := Lib.hid hown3
          have G3 := Lib.hid hg3
          have B3 := Lib.hid hb3
          have HUE := Lib.hid (show usedF d2.files = usedF d.files from HU3.out)
          rw [HUE.out] at c1'
          clear hown3 hg3 hb3 BF3 BD3 k0
          go_wp2
          go_ret
          refine ⟨by rw [HR.out]; rfl, ?_⟩
          rw [HR.out]
          have hW := more_post HX.out (n := n) (s := s) (f := f0) HA3.out (by rw [HU3.out, hrm2]; exact hsr) O3.out G3.out B3.out
          rw [hF, HUE.out] at hW
          have hW2 := Went.after (d := d) G1.out hfs (Went.then OX.out (fun x hx => FX.out x (by rw [← hfs2]; exact hx)) hW)
          rw [HPF.out]
          rw [hfs2] at hW2
          have hE2 : ({ d2 with files := modF n (more s) (insF ⟨n, ByteArray.empty, 0⟩ d1.files) } : Dk) = { d1 with files := insF ⟨n, s, 0⟩ d.files } := HD2.out
          rw [hE2] at hW2
          exact hW2
  · have HR := Lib.hid (show appendD d n s = (begE d n, (begD d).2) by unfold appendD; rw [if_pos hE])
    have hb : (begE d n != 0) = true := bne_iff_ne.2 hE
    clear hE
    generalize appendD d n s = R at *
    generalize (begD d).2 = d1 at *
    generalize begE d n = E at *
    go_enter Tryz.func59, Tryz.ntmps59
    go_wp2_with fail
    refine HG.out.mono ?_
    rintro e w1 ⟨rfl, h1, g1⟩
    have H1 := Lib.hid h1
    have G1 := Lib.hid g1
    clear h1 g1
    go_wp2
    go_ret
    exact ⟨by rw [HR.out]; rfl, by rw [HR.out]; exact Went.head H1.out hfs G1.out⟩
set_option maxHeartbeats 400000 in
set_option maxRecDepth 100000 in
theorem append_nil (w : World) (n s : ByteArray) :
    Calls Tryz.prog 59 #[.pointer none, .string n, .string s] w fun e w' => e = .returned (.int .i64 1) ∧ w' = w := by
  go_enter Tryz.func59, Tryz.ntmps59
  go_wp2_with (go_at_call 64; refine (begin_nil _ _).mono ?_; rintro e w' ⟨rfl, rfl⟩)
  go_ret
  exact ⟨rfl, rfl⟩
end Go.Proofs.YtffnkomnldgcaaaGreatDoor
