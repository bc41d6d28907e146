/-
  A disk in memory: its block, its map, its files' blocks and rows; what turns of the world leave of it.
-/
import Derived.Test.YtffnkomnldgcaaaGreatDoorRows
import Derived.Test.YtffnkomnldgcaaaGreatDoorDk0
import Derived.Test.YtffnkomnldgcaaaGreatDoorBlk
import Derived.Test.YtffnkomnldgcaaaGreatDoorShPlain
import Derived.Maps.OwnSet
import Derived.Maps.Own
import Derived.Sort.KeysCollected
import Derived.Lib.AppendStr
namespace Go.Pal
open Go.RowKit
/-- All blocks but those of S are as they were. -/
structure Off (S : Nat → Prop) (w w' : World) : Prop where
  os : w'.os = w.os
  tape : w'.tape = w.tape
  output : w'.output = w.output
  size : w.heap.size ≤ w'.heap.size
  block : ∀ g, g < w.heap.size → ¬ S g → w'.heap[g]? = w.heap[g]?
theorem Off.refl (S : Nat → Prop) (w : World) : Off S w w := ⟨rfl, rfl, rfl, Nat.le_refl _, fun _ _ _ => rfl⟩
theorem Off.trans {S T : Nat → Prop} {w w1 w2 : World} (h : Off S w w1) (h2 : Off T w1 w2) (ht : ∀ g, g < w.heap.size → T g → S g) : Off S w w2 :=
  ⟨h2.os.trans h.os, h2.tape.trans h.tape, h2.output.trans h.output, Nat.le_trans h.size h2.size, fun g hg hs => (h2.block g (Nat.lt_of_lt_of_le hg h.size) (fun hh => hs (ht g hg hh))).trans (h.block g hg hs)⟩
theorem Off.mono {S T : Nat → Prop} {w w1 : World} (h : Off S w w1) (ht : ∀ g, g < w.heap.size → S g → T g) : Off T w w1 := ⟨h.os, h.tape, h.output, h.size, fun g hg hs => h.block g hg (fun hh => hs (ht g hg hh))⟩
theorem Off.of_grown {w w' : World} {row : Option Nat} (h : w.grownBy w' row) : Off (fun g => row = some g) w w' := ⟨h.os, h.tape, h.output, h.size, fun g hg hs => h.block g hg (fun e => hs e.symm)⟩
theorem Off.of_below {n : Nat} {w w' : World} (h : Below n w w') : Off (fun g => n ≤ g) w w' := ⟨h.os, h.tape, h.output, h.size, fun g _ hs => h.block g (by omega)⟩
theorem Off.of_new {w w' : World} (h : Below w.heap.size w w') (S : Nat → Prop) : Off S w w' := ⟨h.os, h.tape, h.output, h.size, fun g hg _ => h.block g hg⟩
theorem Off.below {S : Nat → Prop} {n : Nat} {w w' : World} (h : Off S w w') (hs : ∀ g, S g → n ≤ g) (hn : n ≤ w.heap.size) : Below n w w' := ⟨h.os, h.tape, h.output, h.size, fun g hg => h.block g (by omega) (fun hh => by have := hs g hh; omega)⟩
theorem Off.set {S : Nat → Prop} {w w' : World} (h : Off S w w') {p : Addr} (hp : w.heap.size ≤ p.block ∨ S p.block) (v : Value) : Off S w (w'.setCell p v) :=
  ⟨h.os, h.tape, h.output, by simpa using h.size, fun g hg hs => (Below.heap_setCell w' p v g (fun e => by rcases hp with h1 | h1; · omega
                                                                                                           · exact hs (e ▸ h1))).trans (h.block g hg hs)⟩
theorem Off.drew {S : Nat → Prop} {w w' : World} (h : Off S w w') : Off S w w'.drew := ⟨h.os, h.tape, h.output, h.size, h.block⟩
theorem Off.alloc {S : Nat → Prop} {w w' : World} (h : Off S w w') (o : Obj) : Off S w (w'.alloc o) :=
  ⟨h.os, h.tape, h.output, by have := h.size; simp; omega, fun g hg hs => (Below.heap_alloc w' o g (Nat.lt_of_lt_of_le hg h.size)).trans (h.block g hg hs)⟩
theorem own_lt {w : World} {base n : Nat} {t : TypeId} {size : Nat} {v : Value} {l : List Value} (h : w.ownsRow base t size v n l) {g : Nat} (hg : v.ownBlock = some g) : g < w.heap.size ∧ base ≤ g ∧ ∃ cur, w.heap[g]? = some (.cells cur t (0, 0)) := by
  rcases h.2 with ⟨rfl, _⟩ | ⟨g', cap, cur, rfl, hb, hh, _⟩
  · cases hg
  · obtain rfl : g' = g := by simpa [Value.ownBlock] using hg
    exact ⟨(Array.getElem?_eq_some_iff.1 hh).1, hb, cur, hh⟩
theorem own_kept {w w' : World} {base n : Nat} {t : TypeId} {size : Nat} {v : Value} {l : List Value} (h : w.ownsRow base t size v n l) (hk : ∀ g, v.ownBlock = some g → w'.heap[g]? = w.heap[g]?) : w'.ownsRow base t size v n l := by
  refine ⟨h.1, ?_⟩
  rcases h.2 with h2 | ⟨g, cap, cur, e, hb, hh, r⟩
  · exact .inl h2
  · exact .inr ⟨g, cap, cur, e, hb, (hk g (by rw [e]; rfl)).trans hh, r⟩
end Go.Pal
namespace Go.Proofs.YtffnkomnldgcaaaGreatDoor
open Go.RowKit Go.Pal Go.Pal.Dk Go.Maps

/-- How a pointer to a file reads. -/
def ptrElem : Value → Option (DataW Unit × List MemPlace)
  | .pointer none => some (.nil, [])
  | .pointer (some ⟨b, 0, none⟩) => some (.lit (.int .i64 (b : Int)), [])
  | _ => none
theorem ptrElem_nil {v : Value} {ps : List MemPlace} (h : ptrElem v = some (.nil, ps)) : v = .pointer none := by
  unfold ptrElem at h
  split at h
  · rfl
  · simp at h
  · simp at h
theorem ptrElem_at {v : Value} {b : Nat} {ps : List MemPlace} (h : ptrElem v = some (.lit (.int .i64 (b : Int)), ps)) : v = .pointer (some ⟨b, 0, none⟩) := by
  unfold ptrElem at h
  split at h
  · simp at h
  · rename_i c
    simp at h
    have e : c = b := by omega
    rw [e]
  · simp at h

/-- Where a disk's map lies, and each file's block and row. -/
structure Lay where
  map : Option Nat
  fb : ByteArray → Nat
  row : ByteArray → Value
def Foot (D : Nat) (l : List Fl) (L : Lay) (g : Nat) : Prop := g = D ∨ L.map = some g ∨ ∃ f ∈ l, g = L.fb f.name ∨ (L.row f.name).ownBlock = some g
def keyS (n : ByteArray) : Lit := .string n.data.toList
def ptrD (L : Lay) (l : List Fl) (n : ByteArray) : DataW Unit := match atF l n with | some _ => .lit (.int .i64 (L.fb n : Int)) | none => .nil
def MapAt (w : World) (l : List Fl) (L : Lay) : Prop := match L.map with
  | none => l = []
  | some b => ∃ Dm : DataW Unit, w.ownsMap Tryz.prog 9 ptrElem b l.length Dm ∧ (∀ n, Dm.atKey (keyS n) .nil = ptrD L l n) ∧ ∀ n, Maps.has Dm (keyS n) = (atF l n).isSome
structure FileAt (w : World) (base : Nat) (L : Lay) (f : Fl) : Prop where
  blk : Blk w (L.fb f.name) 71 [L.row f.name, .int .i64 (f.safe : Int)]
  row : w.ownsRow base 5 1 (L.row f.name) f.data.size (f.data.data.toList.map byteV)
  fbase : base ≤ L.fb f.name
structure DkAt (w : World) (base D : Nat) (d : Dk) (L : Lay) : Prop where
  blk : Blk w D 54 [.int .i64 (d.room : Int), .int .i64 (usedF d.files : Int), .map L.map, .bool d.on, .bool d.arm.isSome, .int .i64 ((d.arm.getD 0 : Nat) : Int)]
  good : GoodD d
  map : MapAt w d.files L
  each : ∀ f ∈ d.files, FileAt w base L f
  apart : ∀ f ∈ d.files, ∀ g ∈ d.files, f.name ≠ g.name → L.fb f.name ≠ L.fb g.name ∧ ∀ b, (L.row f.name).ownBlock = some b → (L.row g.name).ownBlock ≠ some b
  dbase : base ≤ D
  mbase : ∀ b, L.map = some b → base ≤ b

theorem FileAt.keep {w w' : World} {base : Nat} {L : Lay} {f : Fl} (h : FileAt w base L f) (h1 : w'.heap[L.fb f.name]? = w.heap[L.fb f.name]?) (h2 : ∀ b, (L.row f.name).ownBlock = some b → w'.heap[b]? = w.heap[b]?) : FileAt w' base L f :=
  ⟨h1.trans h.blk, own_kept h.row h2, h.fbase⟩
theorem MapAt.keep {w w' : World} {l : List Fl} {L : Lay} (h : MapAt w l L) (hk : ∀ b, L.map = some b → w'.heap[b]? = w.heap[b]?) : MapAt w' l L := by
  unfold MapAt at h ⊢
  cases hm : L.map with
  | none => rw [hm] at h; exact h
  | some b =>
    rw [hm] at h
    obtain ⟨Dm, ⟨es, clock, hb, r⟩, h2, h3⟩ := h
    exact ⟨Dm, ⟨es, clock, (hk b hm).trans hb, r⟩, h2, h3⟩
theorem MapAt.lt {w : World} {l : List Fl} {L : Lay} (h : MapAt w l L) {b : Nat} (hm : L.map = some b) : b < w.heap.size ∧ ∃ es c, w.heap[b]? = some (.map es c) := by
  unfold MapAt at h
  rw [hm] at h
  obtain ⟨Dm, hown, _⟩ := h
  refine ⟨hown.lt, ?_⟩
  obtain ⟨es, clock, hb, _⟩ := hown
  exact ⟨es, clock, hb⟩

theorem DkAt.keep {w w' : World} {base D : Nat} {d : Dk} {L : Lay} (h : DkAt w base D d L) (hk : ∀ g, Foot D d.files L g → w'.heap[g]? = w.heap[g]?) : DkAt w' base D d L :=
  ⟨(hk D (.inl rfl)).trans h.blk, h.good, h.map.keep (fun b hb => hk b (.inr (.inl hb))), fun f hf => (h.each f hf).keep (hk _ (.inr (.inr ⟨f, hf, .inl rfl⟩))) (fun b hb => hk b (.inr (.inr ⟨f, hf, .inr hb⟩))), h.apart, h.dbase, h.mbase⟩
theorem DkAt.foot_lt {w : World} {base D : Nat} {d : Dk} {L : Lay} (h : DkAt w base D d L) {g : Nat} (hg : Foot D d.files L g) : g < w.heap.size := by
  rcases hg with rfl | hm | ⟨f, hf, rfl | hr⟩
  · exact h.blk.lt
  · exact (h.map.lt hm).1
  · exact (h.each f hf).blk.lt
  · exact (own_lt (h.each f hf).row hr).1
theorem DkAt.foot_base {w : World} {base D : Nat} {d : Dk} {L : Lay} (h : DkAt w base D d L) {g : Nat} (hg : Foot D d.files L g) : base ≤ g := by
  rcases hg with rfl | hm | ⟨f, hf, rfl | hr⟩
  · exact h.dbase
  · exact h.mbase g hm
  · exact (h.each f hf).fbase
  · exact (own_lt (h.each f hf).row hr).2.1
theorem DkAt.below {w w' : World} {base D : Nat} {d : Dk} {L : Lay} (h : DkAt w base D d L) {n : Nat} (hb : Below n w w') (hn : w.heap.size ≤ n) : DkAt w' base D d L :=
  h.keep fun g hg => hb.block g (Nat.lt_of_lt_of_le (h.foot_lt hg) hn)
theorem DkAt.off {w w' : World} {base D : Nat} {d : Dk} {L : Lay} (h : DkAt w base D d L) {S : Nat → Prop} (ho : Off S w w') (hs : ∀ g, Foot D d.files L g → ¬ S g) : DkAt w' base D d L :=
  h.keep fun g hg => ho.block g (h.foot_lt hg) (hs g hg)
theorem DkAt.drew {w : World} {base D : Nat} {d : Dk} {L : Lay} (h : DkAt w base D d L) : DkAt w.drew base D d L := h.keep fun _ _ => rfl
/-- No other block of a disk's is its first one. -/
theorem DkAt.ne_map {w : World} {base D : Nat} {d : Dk} {L : Lay} (h : DkAt w base D d L) {b : Nat} (hm : L.map = some b) : b ≠ D := by
  intro e; subst e
  obtain ⟨_, es, c, hb⟩ := h.map.lt hm
  have := h.blk
  unfold Blk at this
  rw [hb] at this; cases this
theorem DkAt.ne_fb {w : World} {base D : Nat} {d : Dk} {L : Lay} (h : DkAt w base D d L) {f : Fl} (hf : f ∈ d.files) : L.fb f.name ≠ D := by
  intro e
  have h1 := h.blk
  have h2 := (h.each f hf).blk
  unfold Blk at h1 h2
  rw [e, h1] at h2
  injection h2 with h2
  injection h2 with _ h3
  exact absurd h3 (by decide)
theorem DkAt.ne_row {w : World} {base D : Nat} {d : Dk} {L : Lay} (h : DkAt w base D d L) {f : Fl} (hf : f ∈ d.files) {b : Nat} (hb : (L.row f.name).ownBlock = some b) : b ≠ D := by
  intro e; subst e
  have h1 := h.blk
  obtain ⟨_, _, cur, h2⟩ := own_lt (h.each f hf).row hb
  unfold Blk at h1
  rw [h1] at h2
  injection h2 with h2
  injection h2 with _ h3
  exact absurd h3 (by decide)
theorem DkAt.fb_row {w : World} {base D : Nat} {d : Dk} {L : Lay} (h : DkAt w base D d L) {f g : Fl} (hf : f ∈ d.files) (hg : g ∈ d.files) {b : Nat} (hb : (L.row g.name).ownBlock = some b) : b ≠ L.fb f.name := by
  intro e; subst e
  have h1 := (h.each f hf).blk
  obtain ⟨_, _, cur, h2⟩ := own_lt (h.each g hg).row hb
  unfold Blk at h1
  rw [h1] at h2
  injection h2 with h2
  injection h2 with _ h3
  exact absurd h3 (by decide)
theorem DkAt.fb_map {w : World} {base D : Nat} {d : Dk} {L : Lay} (h : DkAt w base D d L) {f : Fl} (hf : f ∈ d.files) {b : Nat} (hm : L.map = some b) : b ≠ L.fb f.name := by
  intro e; subst e
  obtain ⟨_, es, c, hb⟩ := h.map.lt hm
  have h1 := (h.each f hf).blk
  unfold Blk at h1
  rw [hb] at h1; cases h1
theorem DkAt.row_map {w : World} {base D : Nat} {d : Dk} {L : Lay} (h : DkAt w base D d L) {f : Fl} (hf : f ∈ d.files) {b : Nat} (hm : L.map = some b) : (L.row f.name).ownBlock ≠ some b := by
  intro e
  obtain ⟨_, es, c, hb⟩ := h.map.lt hm
  obtain ⟨_, _, cur, h2⟩ := own_lt (h.each f hf).row e
  rw [hb] at h2; cases h2
/-- What of a disk is no file is another. -/
theorem DkAt.head {w w' : World} {base D : Nat} {d : Dk} {L : Lay} (h : DkAt w base D d L) {on : Bool} {arm : Option Nat} (ha : arm.getD 0 ≤ 9223372036854775807) (hg : w.grownBy w' (some D))
    (hB : Blk w' D 54 [.int .i64 (d.room : Int), .int .i64 (usedF d.files : Int), .map L.map, .bool on, .bool arm.isSome, .int .i64 ((arm.getD 0 : Nat) : Int)]) : DkAt w' base D { d with on := on, arm := arm } L :=
  ⟨hB, ⟨h.good.room, h.good.used, h.good.sorted, h.good.safe, h.good.names, ha⟩, h.map.keep (fun b hb => hg.block b (h.map.lt hb).1 (by intro e; exact h.ne_map hb (by simpa using e))),
    fun f hf => (h.each f hf).keep (hg.block _ (h.each f hf).blk.lt (by intro e; exact h.ne_fb hf (by simpa using e))) (fun b hb => hg.block b (own_lt (h.each f hf).row hb).1 (by intro e; exact h.ne_row hf hb (by simpa using e))), h.apart, h.dbase, h.mbase⟩
/-- What a name leads to. -/
def ptrV (L : Lay) (l : List Fl) (n : ByteArray) : Value := match atF l n with | some _ => .pointer (some ⟨L.fb n, 0, none⟩) | none => .pointer none
theorem DkAt.look {w : World} {base D : Nat} {d : Dk} {L : Lay} (h : DkAt w base D d L) (n : ByteArray) (hn : n.size ≤ maxLen) :
    (Instr.lookup 52 (.map L.map) (.string n) false).run Tryz.prog w = .ok (ptrV L d.files n) w := by
  have hkey := WideMaps.keyOf_string_mk (P := Tryz.prog) Tryz.underlying9 hn
  have hz : (zeroValue 68).run Tryz.prog w = .ok (.pointer none) w := Tryz.zeroValue68 w
  have hm := h.map
  unfold MapAt at hm
  cases hb : L.map with
  | none =>
    rw [hb] at hm
    have := Maps.look_nil (P := Tryz.prog) (w := w) false (Maps.string_keyed Tryz.underlying9) Tryz.underlying52 hz hkey
    rw [this]
    have hm' : d.files = [] := hm
    simp [ptrV, atF, hm']
  | some b =>
    rw [hb] at hm
    obtain ⟨Dm, hown, h2, _⟩ := hm
    obtain ⟨v, ps, hrun, hv⟩ := hown.lookup (Maps.string_keyed Tryz.underlying9) Tryz.underlying52 hz (zd := .nil) (zp := []) rfl hkey
    rw [hrun]
    have h3 := h2 n
    unfold keyS at h3
    rw [h3] at hv
    unfold ptrD at hv
    unfold ptrV
    cases ha : atF d.files n with
    | none => rw [ha] at hv; rw [ptrElem_nil hv]
    | some f => rw [ha] at hv; rw [ptrElem_at hv]
end Go.Proofs.YtffnkomnldgcaaaGreatDoor
