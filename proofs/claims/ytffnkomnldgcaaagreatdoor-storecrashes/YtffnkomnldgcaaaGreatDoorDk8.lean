/-
  A disk with one file more; contract of add.
-/
import Derived.Test.YtffnkomnldgcaaaGreatDoorDk7
import Derived.Test.YtffnkomnldgcaaaGreatDoorB1
import Derived.Deep.RegionLaw
namespace Go.Pal
open Go.RowKit Go.Maps
/-- 'm[k] = v' in a region that draws its order. -/
theorem step_mapUpdate_own {H : Type} {P : Program} (w : World) {ops : Array Oper} {o : Oper} {a : Act} {K : Act → World → Prop} {Q : Exit → Act → World → Prop} {E : Prop} (hgd : o.guard = none) (m x v : Operand) (t : TypeId) (ho : o.op = Op.mapUpdate t m x v)
    (k e : TypeId) (Kd : Keyed P k) (ht : P.underlying t = some (.map k e)) (R : Value → Option (DataW H × List MemPlace)) (b n : Nat) (D : DataW H)
    (hm : a.eval m = .map (some b)) (hown : w.ownsMap P k R b n D) (hn : n < maxLen) (key val : Value) (kl : Lit) (hx : a.eval x = key) (hv : a.eval v = val) (hkey : keyOf P k key = some kl)
    (d : DataW H) (ps : List MemPlace) (hval : R val = some (d, ps))
    (h : ∀ w', w'.ownsMap P k R b (n + 1) (D.put kl d) → w.grownBy w' (some b) → K (a.put o.dst undef) w') :
    if Region.wanted o (yielded ops a.tmps) = true then Oper.wp P o a w K Q else E := by
  have hw : Region.wanted o (yielded ops a.tmps) = true := by simp [Region.wanted, hgd]
  rw [if_pos hw]
  obtain ⟨w', hrun, r1, r2⟩ := hown.update Kd ht hn hkey hval
  unfold Oper.wp
  simp [execOp, ho, hm, hx, hv, hrun, Result.andThen]
  exact h w' r1 r2
end Go.Pal
namespace Go.Proofs.YtffnkomnldgcaaaGreatDoor
open Go.RowKit Go.Pal Go.Pal.Dk Go.Maps

theorem atF_insF {x : Fl} {l : List Fl} (hn : ∀ f ∈ l, f.name ≠ x.name) (m : ByteArray) : atF (insF x l) m = if x.name = m then some x else atF l m := by
  induction l with
  | nil => unfold insF atF; simp [List.find?_cons]; by_cases h : x.name = m <;> simp [h]
  | cons a r ih =>
    have ih' := ih (fun f hf => hn f (List.mem_cons_of_mem _ hf))
    have ha := hn a List.mem_cons_self
    unfold insF
    split
    · unfold atF at ih' ⊢
      rw [List.find?_cons, List.find?_cons]
      by_cases h1 : a.name = m
      · have h2 : ¬ x.name = m := fun e => ha (h1.trans e.symm)
        simp [h1, h2]
      · simp only [h1, decide_false]; exact ih'
    · unfold atF
      rw [List.find?_cons]
      by_cases h1 : x.name = m <;> simp [h1]
def Lay.add (L : Lay) (n : ByteArray) (b F : Nat) : Lay := ⟨some b, fun m => if m = n then F else L.fb m, fun m => if m = n then .slice none 0 0 else L.row m⟩
theorem keyS_inj {a b : ByteArray} (h : keyS a = keyS b) : a = b := by
  injection h with h; exact data_inj h
/-- One file more. -/
theorem DkAt.make {w w' : World} {base D : Nat} {d : Dk} {L : Lay} (h : DkAt w base D d L) {n : ByteArray} (hno : atF d.files n = none) (hn : n.size ≤ 32) {b F : Nat} {Dm : DataW Unit}
    (hB : Blk w' D 54 [.int .i64 (d.room : Int), .int .i64 (usedF d.files : Int), .map (some b), .bool d.on, .bool d.arm.isSome, .int .i64 ((d.arm.getD 0 : Nat) : Int)])
    (hown : w'.ownsMap Tryz.prog 9 ptrElem b (d.files.length + 1) (Dm.put (keyS n) (.lit (.int .i64 (F : Int))))) (hIs : Maps.IsMap Dm) (hat : ∀ m, Dm.atKey (keyS m) .nil = ptrD L d.files m) (hhas : ∀ m, Maps.has Dm (keyS m) = (atF d.files m).isSome)
    (hF : Blk w' F 71 [.slice none 0 0, .int .i64 0]) (hFn : w.heap.size ≤ F) (hb : L.map = some b ∨ L.map = none ∧ w.heap.size ≤ b)
    (ho : Off (fun x => x = D ∨ L.map = some x) w w') :
    DkAt w' base D { d with files := insF ⟨n, ByteArray.empty, 0⟩ d.files } (L.add n b F) ∧ Off (Foot D d.files L) w w' ∧ ∀ x, Foot D (insF ⟨n, ByteArray.empty, 0⟩ d.files) (L.add n b F) x → Foot D d.files L x ∨ w.heap.size ≤ x := by
  have hbase : base ≤ w.heap.size := Nat.le_trans h.dbase (Nat.le_of_lt h.blk.lt)
  have hnn := atF_none hno
  have hu : usedF (insF ⟨n, ByteArray.empty, 0⟩ d.files) = usedF d.files := by rw [used_insF]; show 0 + _ = _; omega
  have hlen := length_insF ⟨n, ByteArray.empty, 0⟩ d.files
  have old : ∀ k ∈ d.files, FileAt w' base (L.add n b F) k := by
    intro k hk
    have hne := hnn k hk
    have hx := h.each k hk
    have h1 := hx.keep (w' := w') (ho.block _ hx.blk.lt (by
      rintro (e | e)
      · exact h.ne_fb hk e
      · exact h.fb_map hk e rfl)) (fun c hc => ho.block c (own_lt hx.row hc).1 (by
      rintro (e | e)
      · exact h.ne_row hk hc e
      · exact h.row_map hk e hc))
    exact ⟨by simpa [Lay.add, hne] using h1.blk, by simpa [Lay.add, hne] using h1.row, by simpa [Lay.add, hne] using h1.fbase⟩
  have new : FileAt w' base (L.add n b F) ⟨n, ByteArray.empty, 0⟩ := ⟨by simpa [Lay.add] using hF, by simpa [Lay.add] using World.ownsRow_nil w' base 5 1, by simp [Lay.add]; omega⟩
  refine ⟨⟨by rw [hu]; exact hB, ⟨h.good.room, by rw [hu]; exact h.good.used, sorted_insF h.good.sorted hnn, ?_, ?_, h.good.arm⟩, ?_, ?_, ?_, h.dbase, ?_⟩, ?_, ?_⟩
  · intro k hk
    rcases (mem_insF _ _ _).1 hk with rfl | hk'
    · exact Nat.zero_le _
    · exact h.good.safe k hk'
  · intro k hk
    rcases (mem_insF _ _ _).1 hk with rfl | hk'
    · exact hn
    · exact h.good.names k hk'
  · show ∃ Dm' : DataW Unit, _
    refine ⟨_, by rw [hlen]; exact hown, fun m => ?_, fun m => ?_⟩
    · by_cases e : m = n
      · subst e
        rw [Maps.atKey_put_same hIs (show WideAt.IsKeyLit (keyS m) from trivial)]
        simp [ptrD, atF_insF (x := ⟨m, ByteArray.empty, 0⟩) hnn, Lay.add]
      · rw [Maps.atKey_put_other (fun hh => e (keyS_inj hh)), hat m]
        have e2 : ¬ n = m := fun hh => e hh.symm
        simp [ptrD, atF_insF (x := ⟨n, ByteArray.empty, 0⟩) hnn, Lay.add, e, e2]
    · by_cases e : m = n
      · subst e
        rw [Maps.has_put_same hIs (show WideAt.IsKeyLit (keyS m) from trivial), atF_insF (x := ⟨m, ByteArray.empty, 0⟩) hnn]; simp
      · rw [Maps.has_put_other (fun hh => e (keyS_inj hh)), hhas m, atF_insF (x := ⟨n, ByteArray.empty, 0⟩) hnn]
        have e2 : ¬ n = m := fun hh => e hh.symm
        simp [e2]
  · intro k hk
    rcases (mem_insF _ _ _).1 hk with rfl | hk'
    · exact new
    · exact old k hk'
  · intro k hk j hj hne
    rcases (mem_insF _ _ _).1 hk with rfl | hk' <;> rcases (mem_insF _ _ _).1 hj with rfl | hj'
    · exact absurd rfl hne
    · have hjn := hnn j hj'
      have hlt := (h.each j hj').blk.lt
      refine ⟨by simp [Lay.add, hjn]; omega, fun c hc => by simp [Lay.add, Value.ownBlock] at hc⟩
    · have hkn := hnn k hk'
      have hlt := (h.each k hk').blk.lt
      refine ⟨by simp [Lay.add, hkn]; omega, fun c hc => by simp [Lay.add, Value.ownBlock]⟩
    · have hkn := hnn k hk'
      have hjn := hnn j hj'
      simpa [Lay.add, hkn, hjn] using h.apart k hk' j hj' hne
  · intro c hc
    obtain rfl : b = c := by simpa [Lay.add] using hc
    rcases hb with h1 | ⟨_, h1⟩
    · exact h.mbase b h1
    · omega
  · exact ho.mono (fun g _ e => by rcases e with e | e; exact .inl e; exact .inr (.inl e))
  · rintro x (rfl | hx | ⟨k, hk, hx⟩)
    · exact .inl (.inl rfl)
    · obtain rfl : b = x := by simpa [Lay.add] using hx
      rcases hb with h1 | ⟨_, h1⟩
      · exact .inl (.inr (.inl h1))
      · exact .inr h1
    · rcases (mem_insF _ _ _).1 hk with rfl | hk'
      · simp [Lay.add, Value.ownBlock] at hx
        exact .inr (by omega)
      · have hkn := hnn k hk'
        simp only [Lay.add, hkn, if_false] at hx
        exact .inl (.inr (.inr ⟨k, hk', hx⟩))

/-- What add leaves. -/
def Added (w : World) (base D : Nat) (d : Dk) (L : Lay) (n : ByteArray) (e : Ending) (w' : World) : Prop :=
  ∃ L' : Lay, e = .returned (.pointer (some ⟨L'.fb n, 0, none⟩)) ∧ DkAt w' base D { d with files := insF ⟨n, ByteArray.empty, 0⟩ d.files } L' ∧ Off (Foot D d.files L) w w' ∧ ∀ x, Foot D (insF ⟨n, ByteArray.empty, 0⟩ d.files) L' x → Foot D d.files L x ∨ w.heap.size ≤ x

set_option maxHeartbeats 1000000 in
set_option maxRecDepth 100000 in
theorem add_any {w : World} {base D : Nat} {d : Dk} {L : Lay} (h : DkAt w base D d L) {n : ByteArray} (hno : atF d.files n = none) (hn : n.size ≤ 32) (hlen : d.files.length ≤ 1000000000) :
    Calls Tryz.prog 73 #[.pointer (some ⟨D, 0, none⟩), .string n] w fun e w' => Added w base D d L n e w' := by
  have HK := Lib.hid (WideMaps.keyOf_string_mk (P := Tryz.prog) Tryz.underlying9 (show n.size ≤ maxLen by unfold maxLen; omega))
  have c2 : w.cell? ⟨D, 2, none⟩ = some (.map L.map) := h.blk.cell 2
  have hD := h.blk.lt
  have HCL := Lib.hid (fun W => clone_any n W (by omega))
  have hmm := @run_makeMap Tryz.prog
  have hmn : ∀ (w : World) (r : Option Nat), (binOp .eql 52 (.map r) (.map none)).run Tryz.prog w = .ok (.bool r.isNone) w := fun w r => run_eql_map_nil w _ _ _ r Tryz.underlying52
  have HL : Hid (d.files.length < maxLen) := Lib.hid (by unfold maxLen; omega)
  cases hb : L.map with
  | some b =>
    have hmp := h.map
    unfold MapAt at hmp
    rw [hb] at hmp c2
    obtain ⟨Dm, hown, hat, hhas⟩ := hmp
    have hIs := hown.isMap
    have hbl := hown.lt
    obtain ⟨W, hW⟩ : ∃ W, W = w.alloc (.cells #[.slice none 0 0, .int .i64 0] 71) := ⟨_, rfl⟩
    have hWs : W.heap.size = w.heap.size + 1 := by rw [hW]; simp
    have c2W : W.cell? ⟨D, 2, none⟩ = some (.map (some b)) := by rw [hW]; exact Lib.cell?_alloc_some _ c2
    have OW := Lib.hid (show W.ownsMap Tryz.prog 9 ptrElem b d.files.length Dm by rw [hW]; exact hown.alloc _)
    have HMK := Lib.hid (fun w' F => @DkAt.make w w' base D d L h n hno hn b F Dm)
    have HAT := Lib.hid hat
    have HHS := Lib.hid hhas
    have BD := Lib.hid (show Blk W D 54 [.int .i64 (d.room : Int), .int .i64 (usedF d.files : Int), .map (some b), .bool d.on, .bool d.arm.isSome, .int .i64 ((d.arm.getD 0 : Nat) : Int)] by
      rw [hW]; have := h.blk; rw [hb] at this; exact this.alloc _)
    have BF := Lib.hid (show Blk W w.heap.size 71 [.slice none 0 0, .int .i64 0] by rw [hW]; exact Blk.new w _ [.slice none 0 0, .int .i64 0])
    have WO := Lib.hid (show Off (fun x => x = D ∨ L.map = some x) w W by rw [hW]; exact (Off.refl _ w).alloc _)
    have HBN := Lib.hid (show b ≠ D from h.ne_map hb)
    have HBE := Lib.hid hb
    have HHD := Lib.hid h
    clear hat hhas hown h hb
    go_enter Tryz.func73, Tryz.ntmps73
    go_wp2
    rw [← hW]
    clear hW c2
    go_region_law (go_simp; go_at_call 25; refine (HCL.out _).mono ?_; rintro r w7 ⟨rfl, b7⟩; obtain ⟨w8, hrun8, hown8, hg8⟩ := (OW.out.kept (w' := w7) (row := none) ⟨b7.os, b7.tape, b7.output, b7.size, fun k hk _ => b7.block k hk⟩ (by simp)).update (Maps.string_keyed Tryz.underlying9) Tryz.underlying52 HL.out HK.out (show ptrElem (.pointer (some ⟨w.heap.size, 0, none⟩)) = some (.lit (.int .i64 (w.heap.size : Int)), []) from rfl); have c7 : w7.cell? ⟨D, 2, none⟩ = some (.map (some b)) := (World.cell?_of_block (a := ⟨D, 2, none⟩) (b7.block D (by show D < W.heap.size; omega))).trans c2W; have B7 := Lib.hid b7; have O8 := Lib.hid hown8; have G8 := Lib.hid hg8; clear b7 hown8 hg8; simp only [])
    all_goals
      clear hrun8 c7 c2W
      go_wp2
      go_ret
      have h8 : ∀ g, g < W.heap.size → g ≠ b → w8.heap[g]? = W.heap[g]? := fun g hg hgb => (G8.out.block g (Nat.lt_of_lt_of_le hg B7.out.size) (fun e => hgb (by simpa using e))).trans (B7.out.block g hg)
      have ho : Off (fun x => x = D ∨ L.map = some x) w w8 := by
        refine WO.out.trans (T := fun x => x = b) ⟨G8.out.os.trans B7.out.os, G8.out.tape.trans B7.out.tape, G8.out.output.trans B7.out.output, Nat.le_trans B7.out.size G8.out.size, fun g hg hs => h8 g hg hs⟩ (fun g _ e => .inr (by rw [e]; exact HBE.out))
      obtain ⟨r1, r2, r3⟩ := HMK.out w8 w.heap.size ((h8 D (by omega) (fun e => HBN.out e.symm)).trans BD.out) O8.out hIs HAT.out HHS.out ((h8 w.heap.size (by omega) (by omega)).trans BF.out) (Nat.le_refl _) (.inl HBE.out) ho
      exact ⟨L.add n b w.heap.size, by simp [Lay.add], r1, r2, r3⟩
  | none =>
    have hmp := h.map
    unfold MapAt at hmp
    rw [hb] at hmp c2
    have hnil : d.files = [] := hmp
    have f2 := h.blk.frozen 2
    obtain ⟨b, hbd⟩ : ∃ b, b = w.heap.size := ⟨_, rfl⟩
    obtain ⟨W0, hW0⟩ : ∃ W0, W0 = (w.setCell ⟨D, 2, none⟩ (.map (some w.heap.size))).alloc (.map #[] 0) := ⟨_, rfl⟩
    have hW0s : W0.heap.size = w.heap.size + 1 := by rw [hW0]; simp
    obtain ⟨W, hW⟩ : ∃ W, W = W0.alloc (.cells #[.slice none 0 0, .int .i64 0] 71) := ⟨_, rfl⟩
    have hWs : W.heap.size = w.heap.size + 2 := by rw [hW]; simp [hW0s]
    have BD0 : Blk W0 D 54 [.int .i64 (d.room : Int), .int .i64 (usedF d.files : Int), .map (some w.heap.size), .bool d.on, .bool d.arm.isSome, .int .i64 ((d.arm.getD 0 : Nat) : Int)] := by
      rw [hW0]; exact (h.blk.set 2 _).alloc _
    have BD := Lib.hid (show Blk W D 54 [.int .i64 (d.room : Int), .int .i64 (usedF d.files : Int), .map (some w.heap.size), .bool d.on, .bool d.arm.isSome, .int .i64 ((d.arm.getD 0 : Nat) : Int)] by
      rw [hW]; exact BD0.alloc _)
    have c2W : W.cell? ⟨D, 2, none⟩ = some (.map (some w.heap.size)) := BD.out.cell 2
    have OW := Lib.hid (show W.ownsMap Tryz.prog 9 ptrElem w.heap.size d.files.length (.map []) by
      rw [hW, hW0, hnil]
      have hmd := (World.ownsMap_made (w.setCell ⟨D, 2, none⟩ (.map (some w.heap.size))) Tryz.prog 9 ptrElem).alloc (.cells #[.slice none 0 0, .int .i64 0] 71)
      rw [show (w.setCell ⟨D, 2, none⟩ (.map (some w.heap.size))).heap.size = w.heap.size by simp] at hmd
      exact hmd)
    have HMK := Lib.hid (fun w' => @DkAt.make w w' base D d L h n hno hn w.heap.size (w.heap.size + 1) (.map []))
    have HAT := Lib.hid (show ∀ m, (DataW.map [] : DataW Unit).atKey (keyS m) .nil = ptrD L d.files m by intro m; rw [hnil]; rfl)
    have HHS := Lib.hid (show ∀ m, Maps.has (DataW.map [] : DataW Unit) (keyS m) = (atF d.files m).isSome by intro m; rw [hnil]; rfl)
    have BF := Lib.hid (show Blk W (w.heap.size + 1) 71 [.slice none 0 0, .int .i64 0] by rw [hW]; exact Blk.new' W0 _ [.slice none 0 0, .int .i64 0] hW0s.symm)
    have WO := Lib.hid (show Off (fun x => x = D ∨ L.map = some x) w W by rw [hW, hW0]; exact (((Off.refl _ w).set (.inr (.inl rfl)) _).alloc _).alloc _)
    have HBE := Lib.hid hb
    clear h hb BD0 hmp hnil
    go_enter Tryz.func73, Tryz.ntmps73
    go_wp2
    rw [← hW0, ← hW]
    clear hW hW0 c2 f2
    go_region_law (go_simp; go_at_call 25; refine (HCL.out _).mono ?_; rintro r w7 ⟨rfl, b7⟩; obtain ⟨w8, hrun8, hown8, hg8⟩ := (OW.out.kept (w' := w7) (row := none) ⟨b7.os, b7.tape, b7.output, b7.size, fun k hk _ => b7.block k hk⟩ (by simp)).update (Maps.string_keyed Tryz.underlying9) Tryz.underlying52 HL.out HK.out (show ptrElem (.pointer (some ⟨w.heap.size + 1, 0, none⟩)) = some (.lit (.int .i64 ((w.heap.size + 1 : Nat) : Int)), []) from rfl); have c7 : w7.cell? ⟨D, 2, none⟩ = some (.map (some w.heap.size)) := (World.cell?_of_block (a := ⟨D, 2, none⟩) (b7.block D (by show D < W.heap.size; omega))).trans c2W; have B7 := Lib.hid b7; have O8 := Lib.hid hown8; have G8 := Lib.hid hg8; clear b7 hown8 hg8; simp only [])
    all_goals
      clear hrun8 c7 c2W
      go_wp2
      go_ret
      have h8 : ∀ g, g < W.heap.size → g ≠ w.heap.size → w8.heap[g]? = W.heap[g]? := fun g hg hgb => (G8.out.block g (Nat.lt_of_lt_of_le hg B7.out.size) (fun e => hgb (by simpa using e))).trans (B7.out.block g hg)
      have ho : Off (fun x => x = D ∨ L.map = some x) w w8 := by
        refine WO.out.trans (T := fun x => x = w.heap.size) ⟨G8.out.os.trans B7.out.os, G8.out.tape.trans B7.out.tape, G8.out.output.trans B7.out.output, Nat.le_trans B7.out.size G8.out.size, fun g hg hs => h8 g hg hs⟩ (fun g hg e => by omega)
      obtain ⟨r1, r2, r3⟩ := HMK.out w8 ((h8 D (by omega) (by omega)).trans BD.out) O8.out Maps.isMap_empty HAT.out HHS.out ((h8 (w.heap.size + 1) (by omega) (by omega)).trans BF.out) (by omega) (.inr ⟨HBE.out, Nat.le_refl _⟩) ho
      exact ⟨L.add n w.heap.size (w.heap.size + 1), by simp [Lay.add], r1, r2, r3⟩
end Go.Proofs.YtffnkomnldgcaaaGreatDoor
