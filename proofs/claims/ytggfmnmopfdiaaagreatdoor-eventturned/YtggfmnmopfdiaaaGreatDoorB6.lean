/-
  Contracts of key: the tree is grown once.
  Contracts of key: New, Public, Used, Left, takeLeaf.
  Contracts of key: Sign.
  Contracts of the document's keys: Named, Leaves, Public, Sign.
  The law's own: awake, long, small; of no key there is nothing.
-/
import Derived.Test.YtggfmnmopfdiaaaGreatDoorB5
import Derived.Test.YtggfmnmopfdiaaaGreatDoorB1
import Derived.Test.YtggfmnmopfdiaaaGreatDoorB2
import Derived.Test.YtggfmnmopfdiaaaGreatDoorB3
import Derived.Test.YtggfmnmopfdiaaaGreatDoorB4
namespace Go.Proofs.YtggfmnmopfdiaaaGreatDoor
open Go.RowKit Go.Pal

/-- A key that has not grown its tree, and one that has. -/
def KeyFresh (w : World) (b : Nat) (seed : ByteArray) (h : Nat) (used : Int) : Prop :=
  Blk w b 64 (keyCells seed h (.int .i64 used) (.int .u32 0) (.int .i32 0) (.int .u32 0) (.slice none 0 0) (.string ⟨#[]⟩))
def KeyGrown (w : World) (b : Nat) (seed : ByteArray) (h : Nat) (used : Int) : Prop :=
  ∃ g, g ≠ b ∧ Blk w b 64 (keyCells seed h (.int .i64 used) (.int .u32 1) (.int .i32 0) (.int .u32 0) (.slice (some ⟨g, 0, none⟩) (2 ^ h) (2 ^ h)) (.string (keyB seed h))) ∧ Blk w g 9 ((leavesL seed h).map strV)

set_option maxRecDepth 100000 in
set_option maxHeartbeats 2000000 in
theorem slow_key (w : World) (b : Nat) (seed : ByteArray) (h : Nat) (used : Int) (hh : h ≤ 4) (hs : seed.size ≤ 1000000) (ht : TabsK w b) (hK : KeyFresh w b seed h used) :
    Calls Tryz.prog 82 #[.pointer (some ⟨b, 3, none⟩), .func (.func 52) #[.pointer (some ⟨b, 0, none⟩)] #[]] w fun e w' => e = .returned (.tuple #[]) ∧ KeyGrown w' b seed h used ∧ w.grownBy w' (some b) := by
  have hbl := hK.lt
  have c4 : w.cell? ⟨b, 4, none⟩ = some (.int .i32 0) := hK.cell 4
  have f4 : w.frozen? ⟨b, 4, none⟩ = false := hK.frozen 4
  have hK1 : Blk (w.setCell ⟨b, 4, none⟩ (.int .i32 1)) b 64 (keyCells seed h (.int .i64 used) (.int .u32 0) (.int .i32 1) (.int .u32 0) (.slice none 0 0) (.string ⟨#[]⟩)) := hK.set 4 _
  have g1 := grownBy_set0 w b 4 (.int .i32 1)
  have HG1 := Lib.hid g1
  have HL := Lib.hid (lock_free ⟨b, 4, none⟩ w c4 f4)
  have HB := Lib.hid (bload ⟨b, 3, none⟩ 0 (w.setCell ⟨b, 4, none⟩ (.int .i32 1)) (hK1.cell 3))
  have HGR := Lib.hid (grow_any _ b seed h _ _ _ _ _ _ hh hs (ht.on g1) hK1)
  have hnot : ∀ (x : Bool) (w : World), (Op.unary .not (.bool x)).run Tryz.prog w = .ok (.bool (!x)) w := fun _ _ => rfl
  have HLT := Lib.hid (show b < (w.setCell ⟨b, 4, none⟩ (.int .i32 1)).heap.size by rw [World.size_setCell]; exact hbl)
  clear hK1 g1 hK ht hs
  generalize hW1 : w.setCell ⟨b, 4, none⟩ (.int .i32 1) = W1 at *
  have HW1 := Lib.hid hW1
  clear hW1 hbl
  go_enter_defers Tryz.func82, Tryz.ntmps82
  go_wp2_with (first | (go_at_call 110; refine HL.out.mono ?_; rintro e w1 ⟨rfl, rfl⟩) | (go_at_call 81; refine HB.out.mono ?_; rintro e w' ⟨rfl, rfl⟩) | (refine HGR.out.mono ?_; rintro e w2 ⟨rfl, k2, r2, g2⟩))
  -- the door: two deferred calls, the last laid first
  refine leaves_cons (f := 112) (args := #[.pointer (some ⟨b, 3, none⟩), .bool true]) (by simp) (by simp [go_sem]) ?_
  refine (store_deferred ⟨b, 3, none⟩ (.int .u32 0) .returning _ (k2.cell 3) (k2.frozen 3)).mono ?_
  rintro e u' w3 ⟨rfl, rfl, rfl⟩
  have k3 : Blk (w2.drew.setCell ⟨b, 3, none⟩ (.int .u32 1)) b 64 (keyCells seed h (.int .i64 used) (.int .u32 1) (.int .i32 1) (.int .u32 0) (.slice (some ⟨w1.heap.size, 0, none⟩) (2 ^ h) (2 ^ h)) (.string (keyB seed h))) := k2.drew.set 3 _
  refine leaves_cons (f := 111) (args := #[.pointer (some ⟨b, 4, none⟩)]) (by simp [settle]) (by simp [go_sem]) ?_
  refine (unlock_deferred ⟨b, 4, none⟩ _ _ (k3.cell 4) (k3.frozen 4)).mono ?_
  rintro e u' w4 ⟨rfl, rfl, rfl⟩
  have k4 : Blk ((w2.drew.setCell ⟨b, 3, none⟩ (.int .u32 1)).setCell ⟨b, 4, none⟩ (.int .i32 0)) b 64 (keyCells seed h (.int .i64 used) (.int .u32 1) (.int .i32 0) (.int .u32 0) (.slice (some ⟨w1.heap.size, 0, none⟩) (2 ^ h) (2 ^ h)) (.string (keyB seed h))) := k3.set 4 _
  have hne : w1.heap.size ≠ b := by have := HLT.out; omega
  have hfin : KeyGrown ((w2.drew.setCell ⟨b, 3, none⟩ (.int .u32 1)).setCell ⟨b, 4, none⟩ (.int .i32 0)) b seed h used ∧ w.grownBy ((w2.drew.setCell ⟨b, 3, none⟩ (.int .u32 1)).setCell ⟨b, 4, none⟩ (.int .i32 0)) (some b) :=
    ⟨⟨w1.heap.size, hne, k4, ((r2.drew.other (p := ⟨b, 3, none⟩) hne _).other (p := ⟨b, 4, none⟩) hne _)⟩, Lib.grownBy_setB (Lib.grownBy_setB (grown_drew (Lib.grownBy_trans HG1.out g2)) 3 _) 4 _⟩
  simp [Leaves, settle, results, Tryz.results82]
  exact hfin

set_option maxRecDepth 100000 in
theorem do_first (w : World) (b : Nat) (seed : ByteArray) (h : Nat) (used : Int) (hh : h ≤ 4) (hs : seed.size ≤ 1000000) (ht : TabsK w b) (hK : KeyFresh w b seed h used) :
    Calls Tryz.prog 51 #[.pointer (some ⟨b, 3, none⟩), .func (.func 52) #[.pointer (some ⟨b, 0, none⟩)] #[]] w fun e w' => e = .returned (.tuple #[]) ∧ KeyGrown w' b seed h used ∧ w.grownBy w' (some b) := by
  have HS := Lib.hid (slow_key w b seed h used hh hs ht hK)
  have HB := Lib.hid (bload ⟨b, 3, none⟩ 0 w (hK.cell 3))
  have hnot : ∀ (x : Bool) (w : World), (Op.unary .not (.bool x)).run Tryz.prog w = .ok (.bool (!x)) w := fun _ _ => rfl
  clear hh hs ht hK
  go_enter Tryz.func51, Tryz.ntmps51
  go_wp2_with (first | (go_at_call 81; refine HB.out.mono ?_; rintro e w' ⟨rfl, rfl⟩) | (go_at_call 82; refine HS.out.mono ?_; rintro e w' ⟨rfl, hk, hg⟩))
  go_end0
  exact ⟨rfl, hk, hg⟩
theorem do_done (w : World) (a : Addr) (fv : Value) (hc : w.cell? a = some (.int .u32 1)) :
    Calls Tryz.prog 51 #[.pointer (some a), fv] w fun e w' => e = .returned (.tuple #[]) ∧ w = w' := by
  have HB := Lib.hid (bload a 1 w hc)
  have hnot : ∀ (x : Bool) (w : World), (Op.unary .not (.bool x)).run Tryz.prog w = .ok (.bool (!x)) w := fun _ _ => rfl
  go_enter Tryz.func51, Tryz.ntmps51
  go_wp2_with (go_at_call 81; refine HB.out.mono ?_; rintro e w' ⟨rfl, rfl⟩)
  go_end0
  exact ⟨rfl, rfl⟩
/-- However it stands: behind it the tree is grown. -/
def KeyAt (w : World) (b : Nat) (seed : ByteArray) (h : Nat) (used : Int) : Prop := KeyFresh w b seed h used ∨ KeyGrown w b seed h used
theorem do_any (w : World) (b : Nat) (seed : ByteArray) (h : Nat) (used : Int) (hh : h ≤ 4) (hs : seed.size ≤ 1000000) (ht : TabsK w b) (hK : KeyAt w b seed h used) :
    Calls Tryz.prog 51 #[.pointer (some ⟨b, 3, none⟩), .func (.func 52) #[.pointer (some ⟨b, 0, none⟩)] #[]] w fun e w' => e = .returned (.tuple #[]) ∧ KeyGrown w' b seed h used ∧ w.grownBy w' (some b) := by
  rcases hK with hK | hK
  · exact do_first w b seed h used hh hs ht hK
  · refine (do_done w _ _ ?_).mono ?_
    · obtain ⟨g, _, hK, _⟩ := hK
      exact hK.cell 3
    · rintro e w' ⟨rfl, rfl⟩
      exact ⟨rfl, hK, ⟨rfl, rfl, rfl, Nat.le_refl _, fun _ _ _ => rfl⟩⟩
end Go.Proofs.YtggfmnmopfdiaaaGreatDoor
namespace Go.Proofs.YtggfmnmopfdiaaaGreatDoor
open Go.RowKit Go.Pal

theorem KeyAt.blk {w : World} {b : Nat} {seed : ByteArray} {h : Nat} {used : Int} (hK : KeyAt w b seed h used) : ∃ x3 x4 x5 x6 x7, Blk w b 64 (keyCells seed h (.int .i64 used) x3 x4 x5 x6 x7) := by
  rcases hK with hK | ⟨g, _, hK, _⟩
  · exact ⟨_, _, _, _, _, hK⟩
  · exact ⟨_, _, _, _, _, hK⟩
theorem KeyAt.lt {w : World} {b : Nat} {seed : ByteArray} {h : Nat} {used : Int} (hK : KeyAt w b seed h used) : b < w.heap.size := by
  obtain ⟨_, _, _, _, _, hK⟩ := hK.blk
  exact hK.lt
theorem KeyGrown.below {w w' : World} {b : Nat} {seed : ByteArray} {h : Nat} {used : Int} (hK : KeyGrown w b seed h used) (hb : Below w.heap.size w w') : KeyGrown w' b seed h used := by
  obtain ⟨g, hne, hK, hR⟩ := hK
  exact ⟨g, hne, hK.below hb hK.lt, hR.below hb hR.lt⟩
theorem KeyAt.below {w w' : World} {b : Nat} {seed : ByteArray} {h : Nat} {used : Int} (hK : KeyAt w b seed h used) (hb : Below w.heap.size w w') : KeyAt w' b seed h used := by
  rcases hK with hK | hK
  · exact .inl (Blk.below hK hb (Blk.lt hK))
  · exact .inr (hK.below hb)
/-- A leaf is taken. -/
theorem KeyAt.take {w : World} {b : Nat} {seed : ByteArray} {h : Nat} {used : Int} (hK : KeyAt w b seed h used) (u : Int) : KeyAt (w.setCell ⟨b, 2, none⟩ (.int .i64 u)) b seed h u := by
  rcases hK with hK | ⟨g, hne, hK, hR⟩
  · exact .inl (Blk.set hK 2 (.int .i64 u))
  · exact .inr ⟨g, hne, hK.set 2 (.int .i64 u), hR.other (p := ⟨b, 2, none⟩) hne _⟩

set_option maxHeartbeats 1000000 in
set_option maxRecDepth 100000 in
theorem new_yes (w : World) (seed : ByteArray) (h used : Nat) (hh : h ≤ 4) (hu : used ≤ 2 ^ h) (hs : seed.size ≤ 281474976710656) :
    Calls Tryz.prog 7 #[.string seed, .int .i64 (h : Int), .int .i64 (used : Int)] w fun e w' => (∃ b, e = .returned (.pointer (some ⟨b, 0, none⟩)) ∧ KeyFresh w' b seed h used ∧ w.heap.size ≤ b) ∧ Below w.heap.size w w' := by
  have HC := Lib.hid (fun W => count_any h hh W)
  have HCL := Lib.hid (fun W => clone_any seed W hs)
  have g2 : ¬ 4 < h := by omega
  generalize 2 ^ h = n at *
  have g4 : ¬ n < used := by omega
  clear hs hu
  go_enter Tryz.func7, Tryz.ntmps7
  go_wp2_with (first | (go_at_call 22; refine (HC.out _).mono ?_; rintro e w' ⟨rfl, rfl⟩) | (go_at_call 23; refine (HCL.out _).mono ?_; rintro e w1 ⟨rfl, b1⟩))
  have hB := Blk.new w1 64 (keyCells seed h (.int .i64 0) (.int .u32 0) (.int .i32 0) (.int .u32 0) (.slice none 0 0) (.string ⟨#[]⟩))
  have HST := Lib.hid (store64 ⟨w1.heap.size, 2, none⟩ (.int .i64 0) used _ (hB.cell 2) (hB.frozen 2))
  have HBS := Lib.hid (Blk.new w1 64 (keyCells seed h (.int .i64 used) (.int .u32 0) (.int .i32 0) (.int .u32 0) (.slice none 0 0) (.string ⟨#[]⟩)))
  have HBB := Lib.hid (b1.alloc b1.size (.cells (keyCells seed h (.int .i64 used) (.int .u32 0) (.int .i32 0) (.int .u32 0) (.slice none 0 0) (.string ⟨#[]⟩)).toArray 64))
  have hsz := b1.size
  clear hB b1
  refine HST.out.mono ?_
  rintro e w2 ⟨rfl, rfl⟩
  go_wp2
  go_ret
  exact ⟨⟨w1.heap.size, rfl, HBS.out, hsz⟩, HBB.out⟩

set_option maxHeartbeats 1000000 in
set_option maxRecDepth 100000 in
theorem new_no (w : World) (seed : ByteArray) (h used : Int) (hx : h < 0 ∨ 4 < h ∨ used < 0 ∨ ((2 ^ h.toNat : Nat) : Int) < used) :
    Calls Tryz.prog 7 #[.string seed, .int .i64 h, .int .i64 used] w fun e w' => e = .returned (.pointer none) ∧ w = w' := by
  by_cases h1 : h < 0
  · go_enter Tryz.func7, Tryz.ntmps7
    go_wp2
    go_ret
    exact ⟨rfl, rfl⟩
  by_cases h2 : 4 < h
  · go_enter Tryz.func7, Tryz.ntmps7
    go_wp2
    go_ret
    exact ⟨rfl, rfl⟩
  by_cases h3 : used < 0
  · go_enter Tryz.func7, Tryz.ntmps7
    go_wp2
    go_ret
    exact ⟨rfl, rfl⟩
  obtain ⟨k, rfl⟩ : ∃ k : Nat, h = k := ⟨h.toNat, by omega⟩
  have HC := Lib.hid (fun W => count_any k (by omega) W)
  rw [Int.toNat_natCast] at hx
  generalize 2 ^ k = n at *
  have h4 : (n : Int) < used := by omega
  clear hx
  have h5 : ¬ 4 < k := by omega
  go_enter Tryz.func7, Tryz.ntmps7
  go_wp2_with (go_at_call 22; refine (HC.out _).mono ?_; rintro e w' ⟨rfl, rfl⟩)
  go_ret
  exact ⟨rfl, rfl⟩

theorem used_any (w : World) (b : Nat) (seed : ByteArray) (h : Nat) (used : Int) (hK : KeyAt w b seed h used) :
    Calls Tryz.prog 12 #[.pointer (some ⟨b, 0, none⟩)] w fun e w' => e = .returned (.int .i64 used) ∧ w = w' := by
  obtain ⟨x3, x4, x5, x6, x7, hB⟩ := hK.blk
  have HL := Lib.hid (load64 ⟨b, 2, none⟩ used w (hB.cell 2))
  clear hB hK
  go_enter Tryz.func12, Tryz.ntmps12
  go_wp2_with (go_at_call 32; refine HL.out.mono ?_; rintro e w' ⟨rfl, rfl⟩)
  go_ret
  exact ⟨rfl, rfl⟩

set_option maxHeartbeats 400000 in
theorem public_grown (w : World) (b : Nat) (seed : ByteArray) (h : Nat) (used : Int) (hK : KeyGrown w b seed h used) :
    Calls Tryz.prog 25 #[.pointer (some ⟨b, 0, none⟩)] w fun e w' => e = .returned (.string (keyB seed h)) ∧ Below w.heap.size w w' := by
  obtain ⟨g, hne, hB, hR⟩ := hK
  have c7 : w.cell? ⟨b, 7, none⟩ = some (.string (keyB seed h)) := hB.cell 7
  have HD := Lib.hid (fun fv => do_done w ⟨b, 3, none⟩ fv (hB.cell 3))
  have HCL := Lib.hid (clone_any (keyB seed h) w (by rw [keyB, namedB_size]; omega))
  have hmf : ∀ (fn : Fn) (first cap : Array Value) (w : World), (Instr.makeFunc fn first cap).run Tryz.prog w = .ok (.func fn first cap) w := fun _ _ _ _ => rfl
  clear hB hR hne
  generalize keyB seed h = K at *
  go_enter Tryz.func25, Tryz.ntmps25
  go_wp2_with (first | (go_at_call 51; refine (HD.out _).mono ?_; rintro e w' ⟨rfl, rfl⟩) | (go_at_call 23; refine HCL.out.mono ?_; rintro e w1 ⟨rfl, b1⟩))
  go_ret
  exact ⟨rfl, b1⟩

set_option maxHeartbeats 400000 in
theorem public_at (w : World) (b : Nat) (seed : ByteArray) (h : Nat) (used : Int) (hh : h ≤ 4) (hs : seed.size ≤ 1000000) (ht : TabsK w b) (hK : KeyAt w b seed h used) :
    Calls Tryz.prog 25 #[.pointer (some ⟨b, 0, none⟩)] w fun e w' => e = .returned (.string (keyB seed h)) ∧ KeyGrown w' b seed h used ∧ w.grownBy w' (some b) := by
  have HD := Lib.hid (do_any w b seed h used hh hs ht hK)
  have HCL := Lib.hid (fun W => clone_any (keyB seed h) W (by rw [keyB, namedB_size]; omega))
  have hmf : ∀ (fn : Fn) (first cap : Array Value) (w : World), (Instr.makeFunc fn first cap).run Tryz.prog w = .ok (.func fn first cap) w := fun _ _ _ _ => rfl
  clear hh hs ht hK
  go_enter Tryz.func25, Tryz.ntmps25
  go_wp2_with fail
  refine HD.out.mono ?_
  rintro e w1 ⟨rfl, k1, g1⟩
  obtain ⟨g, hne, hB, hR⟩ := k1
  have c7 : w1.cell? ⟨b, 7, none⟩ = some (.string (keyB seed h)) := hB.cell 7
  have HK1 := Lib.hid (show KeyGrown w1 b seed h used from ⟨g, hne, hB, hR⟩)
  have HG1 := Lib.hid g1
  clear hB hR hne g1
  go_wp2_with (go_at_call 23; refine (HCL.out _).mono ?_; rintro e w2 ⟨rfl, b2⟩)
  go_ret
  exact ⟨rfl, HK1.out.below b2, Lib.grownBy_below HG1.out b2⟩

set_option maxHeartbeats 1000000 in
set_option maxRecDepth 100000 in
theorem leaf_take (w : World) (b : Nat) (seed : ByteArray) (h used : Nat) (hh : h ≤ 4) (hu : used < 2 ^ h) (hK : KeyAt w b seed h used) :
    Calls Tryz.prog 53 #[.pointer (some ⟨b, 0, none⟩)] w fun e w' => e = .returned (.tuple #[.int .i64 (used : Int), .bool true]) ∧ w.setCell ⟨b, 2, none⟩ (.int .i64 ((used + 1 : Nat) : Int)) = w' := by
  obtain ⟨x3, x4, x5, x6, x7, hB⟩ := hK.blk
  have HL := Lib.hid (load64 ⟨b, 2, none⟩ used w (hB.cell 2))
  have HC := Lib.hid (count_any h hh w)
  have HCS := Lib.hid (cas64 ⟨b, 2, none⟩ used ((used + 1 : Nat) : Int) w (hB.cell 2) (hB.frozen 2))
  have c1 : w.cell? ⟨b, 1, none⟩ = some (.int .i64 (h : Int)) := hB.cell 1
  have h16 := pow_le16 h hh
  generalize 2 ^ h = n at *
  have hw : IntKind.i64.wrap ((used : Int) + 1) = ((used + 1 : Nat) : Int) := by rw [IntKind.wrap_i64]; omega
  clear hB hK hh
  go_enter Tryz.func53, Tryz.ntmps53
  go_wp2_with (first | (go_at_call 22; refine HC.out.mono ?_; rintro e w' ⟨rfl, rfl⟩) | (go_at_call 32; refine HL.out.mono ?_; rintro e w' ⟨rfl, rfl⟩))
  go_loopw [5] (fun u wr => u = .int .i64 (used : Int) ∧ wr = w) (fun _ _ => 0)
  case atStart => exact ⟨rfl, rfl⟩
  case round =>
    obtain ⟨rfl, rfl⟩ := hrel
    go_wp2_with (go_at_call 85; refine HCS.out.mono ?_; rintro e w' ⟨rfl, rfl⟩)
    go_ret2
    exact ⟨rfl, rfl⟩

set_option maxHeartbeats 1000000 in
set_option maxRecDepth 100000 in
theorem leaf_none (w : World) (b : Nat) (seed : ByteArray) (h : Nat) (hh : h ≤ 4) (hK : KeyAt w b seed h ((2 ^ h : Nat) : Int)) :
    Calls Tryz.prog 53 #[.pointer (some ⟨b, 0, none⟩)] w fun e w' => e = .returned (.tuple #[.int .i64 0, .bool false]) ∧ w = w' := by
  obtain ⟨x3, x4, x5, x6, x7, hB⟩ := hK.blk
  have HL := Lib.hid (load64 ⟨b, 2, none⟩ ((2 ^ h : Nat) : Int) w (hB.cell 2))
  have HC := Lib.hid (count_any h hh w)
  have c1 : w.cell? ⟨b, 1, none⟩ = some (.int .i64 (h : Int)) := hB.cell 1
  generalize 2 ^ h = n at *
  clear hB hK hh
  go_enter Tryz.func53, Tryz.ntmps53
  go_wp2_with (first | (go_at_call 22; refine HC.out.mono ?_; rintro e w' ⟨rfl, rfl⟩) | (go_at_call 32; refine HL.out.mono ?_; rintro e w' ⟨rfl, rfl⟩))
  go_loopw [5] (fun u wr => u = .int .i64 (n : Int) ∧ wr = w) (fun _ _ => 0)
  case atStart => exact ⟨rfl, rfl⟩
  case round =>
    obtain ⟨rfl, rfl⟩ := hrel
    go_wp2
    go_ret2
    exact ⟨rfl, rfl⟩
end Go.Proofs.YtggfmnmopfdiaaaGreatDoor
namespace Go.Proofs.YtggfmnmopfdiaaaGreatDoor
open Go.RowKit Go.Pal

theorem own_strs2 {w : World} {base : Nat} {t : TypeId} {v : Value} {n : Nat} {l : List ByteArray} (h : w.ownsRow base t 1 v n (l.map strV)) (hn : l.length = n) : ∃ a cap, v = .slice a l.length cap ∧ StrRow w a l ∧ l.length ≤ cap := by
  subst hn
  rcases h.2 with ⟨rfl, h0⟩ | ⟨g, cap, cur, rfl, hb, hg, hc, _⟩
  · exact ⟨none, 0, by rw [h0], .inl (List.eq_nil_of_length_eq_zero h0), by omega⟩
  · refine ⟨some ⟨g, 0, none⟩, cap, rfl, .inr ⟨g, 0, rfl, (h.lt g rfl).2, fun i hi => ?_⟩, hc⟩
    rw [Nat.zero_add, h.cellAt i (by omega), strs_get? l i hi]

theorem sign_nil (w : World) (m : ByteArray) :
    Calls Tryz.prog 27 #[.pointer none, .string m] w fun e w' => e = .returned (.tuple #[.string ⟨#[]⟩, .int .i64 1]) ∧ w = w' := by
  go_enter Tryz.func27, Tryz.ntmps27
  go_wp2
  go_ret2
  exact ⟨rfl, rfl⟩
set_option maxHeartbeats 400000 in
theorem sign_spent (w : World) (b : Nat) (seed : ByteArray) (h : Nat) (m : ByteArray) (hh : h ≤ 4) (hK : KeyAt w b seed h ((2 ^ h : Nat) : Int)) :
    Calls Tryz.prog 27 #[.pointer (some ⟨b, 0, none⟩), .string m] w fun e w' => e = .returned (.tuple #[.string ⟨#[]⟩, .int .i64 5]) ∧ w = w' := by
  have HL := Lib.hid (leaf_none w b seed h hh hK)
  have hnot : ∀ (x : Bool) (w : World), (Op.unary .not (.bool x)).run Tryz.prog w = .ok (.bool (!x)) w := fun _ _ => rfl
  clear hh hK
  go_enter Tryz.func27, Tryz.ntmps27
  go_wp2_with (go_at_call 53; refine HL.out.mono ?_; rintro e w' ⟨rfl, rfl⟩)
  go_ret2
  exact ⟨rfl, rfl⟩

set_option maxHeartbeats 2000000 in
set_option maxRecDepth 100000 in
theorem sign_any (w : World) (b : Nat) (seed : ByteArray) (h used : Nat) (m : ByteArray) (hh : h ≤ 4) (hu : used < 2 ^ h) (hs : seed.size ≤ 1000000) (hm : m.size ≤ 1000000) (ht : TabsK w b) (hK : KeyAt w b seed h used) :
    Calls Tryz.prog 27 #[.pointer (some ⟨b, 0, none⟩), .string m] w fun e w' => e = .returned (.tuple #[.string (sigB seed h used m), .int .i64 0]) ∧ KeyGrown w' b seed h ((used + 1 : Nat) : Int) ∧ w.grownBy w' (some b) := by
  have h16 := pow_le16 h hh
  have HTL := Lib.hid (leaf_take w b seed h used hh hu hK)
  have g0 := grownBy_set0 w b 2 (.int .i64 ((used + 1 : Nat) : Int))
  have HDO := Lib.hid (do_any _ b seed h _ hh hs (ht.on g0) (hK.take ((used + 1 : Nat) : Int)))
  have HG0 := Lib.hid g0
  have HT := Lib.hid ht
  have hk2 := numOk_yes (k := 2) (n := (used : Int)) (by omega) (by simp; omega)
  have hB2 := numB_yes hk2
  have hsh := short_any (used : Int) (by omega)
  rw [hB2, hk2, Int.toNat_natCast] at hsh
  have HSH := Lib.hid hsh
  have HMS := Lib.hid (fun W hT => msg_any m hm W hT)
  have HSG := Lib.hid (fun W hT => sign_yes W seed used (msgB m) (by omega) hs (msgB_size m) hT)
  have hpa := fun W a c h1 hT => path_yes W a c (leavesL seed h) h used hh (leavesL_length _ _) hu h1 (leaves_small _ _) hT
  rw [leavesL_length] at hpa
  have HPA := Lib.hid hpa
  have HJ1 := Lib.hid (fun W a c h1 h2 => join_any W a c (valsL seed used m) h1 (by rw [valsL_length]; omega) (valsL_32 _ _ _) h2)
  have HJ2 := Lib.hid (fun W a c h1 h2 => join_any W a c (pathL seed h used) h1 (by rw [pathL_length]; omega) (pathL_32 _ _ _ hu) h2)
  rw [valsL_length] at HJ1
  rw [pathL_length] at HJ2
  have HPL := Lib.hid (pathL_length seed h used)
  have HPE := Lib.hid (show pathL seed h used = pathTo (leavesL seed h) used h from rfl)
  have HVE := Lib.hid (show valsL seed used m = signL seed used (digL (msgB m).data.toList) from rfl)
  have HSI := Lib.hid (show sigB seed h used m = be 2 used ++ catB (valsL seed used m) ++ catB (pathL seed h used) from rfl)
  have hnot : ∀ (x : Bool) (w : World), (Op.unary .not (.bool x)).run Tryz.prog w = .ok (.bool (!x)) w := fun _ _ => rfl
  have hmf : ∀ (fn : Fn) (first cap : Array Value) (w : World), (Instr.makeFunc fn first cap).run Tryz.prog w = .ok (.func fn first cap) w := fun _ _ _ _ => rfl
  have z1 : (be 2 used).size ≤ 1000000 := by rw [be_size]; omega
  have z2 : (catB (valsL seed used m)).size ≤ 1000000 := by rw [catB_size _ (valsL_32 _ _ _), valsL_length]; omega
  have z3 : (catB (pathL seed h used)).size ≤ 1000000 := by rw [catB_size _ (pathL_32 _ _ _ hu), pathL_length]; omega
  have z12 : (be 2 used ++ catB (valsL seed used m)).size ≤ 2000000 := by rw [ByteArray.size_append]; omega
  generalize be 2 used = X1 at *
  generalize catB (valsL seed used m) = X2 at *
  generalize catB (pathL seed h used) = X3 at *
  clear hpa hsh hk2 hB2 g0 hK ht hs hm
  generalize w.setCell ⟨b, 2, none⟩ (.int .i64 ((used + 1 : Nat) : Int)) = W0 at *
  go_enter Tryz.func27, Tryz.ntmps27
  go_wp2_with (go_at_call 53; refine HTL.out.mono ?_; rintro e w1 ⟨rfl, rfl⟩)
  refine HDO.out.mono ?_
  rintro e w2 ⟨rfl, k2, g2⟩
  clear HTL HDO
  have HG2 := Lib.hid (Lib.grownBy_trans HG0.out g2)
  have HT2 := Lib.hid (HT.out.on HG2.out).now
  obtain ⟨g, hne, hB, hR⟩ := k2
  have hbl := hB.lt
  have hgl := hR.lt
  have c0 : w2.cell? ⟨b, 0, none⟩ = some (.string seed) := hB.cell 0
  have c6 : w2.cell? ⟨b, 6, none⟩ = some (.slice (some ⟨g, 0, none⟩) (2 ^ h) (2 ^ h)) := hB.cell 6
  have HK2 := Lib.hid (show KeyGrown w2 b seed h ((used + 1 : Nat) : Int) from ⟨g, hne, hB, hR⟩)
  have HR := Lib.hid (strRow_blk hR)
  clear hB hR hne g2 HG0
  go_wp2_with fail
  refine (HSH.out _).mono ?_
  rintro e w3 ⟨rfl, b3⟩
  have c03 := (b3.cell (p := ⟨b, 0, none⟩) hbl).trans c0
  have c63 := (b3.cell (p := ⟨b, 6, none⟩) hbl).trans c6
  have B3 := Lib.hid b3.drew
  have hs3 : w2.heap.size ≤ w3.heap.size := b3.size
  have HM3 := Lib.hid (HMS.out w3.drew (HT2.out.below B3.out))
  have HSG4 := Lib.hid (fun (W : World) (hb : Below w3.heap.size w3.drew W) => HSG.out W (HT2.out.below (B3.out.trans (hb.mono hs3))))
  clear c0 c6 b3 HSH HMS HSG
  have hb3 : b < w3.heap.size := Nat.lt_of_lt_of_le hbl hs3
  rw [← HVE.out] at HSG4
  go_wp2
  go_region_with (first | (go_at_call 56; refine HM3.out.mono ?_; rintro e w4 ⟨rfl, b4⟩; have c04 := (b4.cell (p := ⟨b, 0, none⟩) hb3).trans c03) | (go_at_call 55; refine (HSG4.out _ b4).mono ?_; rintro e w5 ⟨⟨gv, rfl, r5⟩, b5⟩))
  all_goals
    have hs4 : w3.heap.size ≤ w4.heap.size := b4.size
    have c65 := (b5.cell (p := ⟨b, 6, none⟩) (Nat.lt_of_lt_of_le hb3 hs4)).trans ((b4.cell (p := ⟨b, 6, none⟩) hb3).trans c63)
    have B5 := Lib.hid (B3.out.trans ((b4.mono hs3).trans (b5.mono (Nat.le_trans hs3 hs4))))
    have R5 := Lib.hid r5.1
    have HP5 := Lib.hid (HPA.out w5 _ (2 ^ h) (HR.out.below B5.out) (HT2.out.below B5.out))
    clear b4 b5 r5 c63
    go_wp2_with fail
    refine HP5.out.mono ?_
    rintro e w6 ⟨⟨v, rfl, ho⟩, b6⟩
    rw [← HPE.out] at ho
    obtain ⟨pa, pc, rfl, p6, pcap⟩ := own_strs2 ho HPL.out
    rw [HPL.out] at pcap ⊢
    have B6 := Lib.hid (B5.out.trans (b6.mono B5.out.size))
    have HJ16 := Lib.hid (HJ1.out w6 _ 67 (R5.out.below b6) (Nat.le_refl _))
    have P6 := Lib.hid p6
    clear ho b6 p6
    go_wp2_with fail
    refine HJ16.out.mono ?_
    rintro e w7 ⟨rfl, b7⟩
    have HJ27 := Lib.hid (HJ2.out w7 _ pc (P6.out.below b7) pcap)
    have B7 := Lib.hid (B6.out.trans (b7.mono B6.out.size))
    clear b7
    go_wp2_with fail
    refine HJ27.out.mono ?_
    rintro e w8 ⟨rfl, b8⟩
    have B8 := Lib.hid (B7.out.trans (b8.mono B7.out.size))
    clear b8
    go_wp2
    go_ret2
    refine ⟨by rw [HSI.out]; rfl, HK2.out.below B8.out, Lib.grownBy_below HG2.out B8.out⟩
end Go.Proofs.YtggfmnmopfdiaaaGreatDoor
namespace Go.Proofs.YtggfmnmopfdiaaaGreatDoor
open Go.RowKit Go.Pal

set_option maxHeartbeats 400000 in
theorem refnamed (h : Nat) (root : ByteArray) (hh : h ≤ 4) (hr : root.size ≤ 1000000) (w : World) :
    Calls Tryz.prog 29 #[.int .i64 (h : Int), .string root] w fun e w' => e = .returned (.string (namedB h root)) ∧ Below w.heap.size w w' := by
  have htot : totL [be 1 h, root] ≤ 9000000 := by simp [totL, be_size]; omega
  have HTG := Lib.hid (fun W a c h2 => reftag_any W 5 a c [be 1 h, root] h2 htot (by simp))
  have hp : namedB h root = shaB ⟨(inputL 5 [be 1 h, root]).toArray⟩ := rfl
  have HP := Lib.hid hp
  have hk := numOk_yes (k := 1) (n := (h : Int)) (by omega) (by simp; omega)
  have hB := numB_yes hk
  have hby := number1_any (h : Int)
  rw [hB, hk, Int.toNat_natCast] at hby
  have HBY := Lib.hid hby
  clear htot hp hr hB hk hby
  generalize be 1 h = B at *
  go_enter Tryz.func29, Tryz.ntmps29
  go_wp2_with fail
  refine (HBY.out _).mono ?_
  rintro e w1 ⟨rfl, b1⟩
  have B1 := Lib.hid b1
  clear b1
  go_wp2_with fail
  have c3 := (B1.out).alloc B1.out.size (.cells #[.string B, .string root] 9)
  refine (HTG.out _ _ _ (strs2t _ _ _ _)).mono ?_
  rintro e w4 ⟨rfl, b4⟩
  have C4 := Lib.hid (c3.trans (b4.mono c3.size))
  clear b4 c3
  rw [← HP.out]
  go_wp2
  go_ret
  exact ⟨rfl, C4.out⟩

set_option maxHeartbeats 1000000 in
set_option maxRecDepth 100000 in
theorem refleaves (w : World) (seed : ByteArray) (h : Nat) (hh : h ≤ 4) (hs : seed.size ≤ 1000000) :
    Calls Tryz.prog 31 #[.string seed, .int .i64 (h : Int)] w fun e w' => (∃ b off c, e = .returned (.slice (some ⟨b, off, none⟩) (2 ^ h) c) ∧ StrRow w' (some ⟨b, off, none⟩) (leavesL seed h) ∧ b < w'.heap.size) ∧ Below w.heap.size w w' := by
  obtain ⟨i0, hi0, hz0, hz1, hz2⟩ := info_parts (show (Tryz.prog.info? 9).map (fun i => (i.zero, i.size, i.bytes)) = some (some (.string ⟨#[]⟩), 1, 16) by kernel_rfl)
  have h16 := pow_le16 h hh
  have HPU := Lib.hid (fun W (k : Nat) (hk : k < 2 ^ h) => refpublic W seed k (by omega) hs)
  have HTK := Lib.hid (fun k hk => leaves_take seed h k hk)
  have HEL := Lib.hid (leavesL_length seed h)
  have HPW := Lib.hid (fun k (hk : k ≤ h) => pow_le16 k (by omega))
  have HPS := Lib.hid (fun k : Nat => (Nat.pow_succ 2 k : 2 ^ (k + 1) = 2 ^ k * 2))
  have HPOS := Lib.hid (Nat.two_pow_pos h)
  generalize leavesL seed h = E at *
  clear hs
  go_enter Tryz.func31, Tryz.ntmps31
  go_wp2
  go_loopw [6, 7] (fun n i wr => ∃ k : Nat, k ≤ h ∧ i = .int .i64 k ∧ n = .int .i64 ((2 ^ k : Nat) : Int) ∧ wr = w) (fun _ i _ => h - (intOf i).toNat)
  case atStart => exact ⟨0, by omega, rfl, rfl, rfl⟩
  case round =>
    obtain ⟨k, hk, rfl, rfl, rfl⟩ := hrel
    by_cases hlt : k < h
    · have hp := HPW.out k hk
      have HE := Lib.hid (HPS.out k)
      generalize 2 ^ k = q at *
      have hw : IntKind.i64.wrap (2 * (q : Int)) = 2 * (q : Int) := by rw [IntKind.wrap_i64]; omega
      go_wp2
      go_roundw
      case rel => exact ⟨k + 1, by omega, by go_num, by rw [HE.out]; first | (congr 1; omega) | (congr 2; omega), by first | rfl | trivial⟩
      case measure => simp [intOf]; omega
    · obtain rfl : k = h := by omega
      clear HPW HPS hk hlt hh
      generalize hnn : 2 ^ k = n at *
      have HNN := Lib.hid hnn
      clear hnn
      rename World => w
      go_wp2
      go_loopw [5, 8] (fun v i wr => ∃ j : Nat, j ≤ n ∧ i = .int .i64 j ∧ wr.ownsRow w.heap.size 9 1 v j ((E.take j).map strV) ∧ Below w.heap.size w wr) (fun _ i _ => n - (intOf i).toNat)
      case atStart => exact ⟨0, by omega, rfl, World.ownsRow_nil _ _ _ _, Below.refl _ _⟩
      case round =>
        obtain ⟨j, hj, rfl, hown, hb⟩ := hrel
        by_cases hlt : j < n
        · have htk := HTK.out j hlt
          have hpu := HPU.out wr j hlt
          generalize publicB seed j = z at *
          have HPK := Lib.hid hpu
          have HT1 := Lib.hid htk
          have HO := Lib.hid hown
          have HB := Lib.hid hb
          have HC1 : Hid (j + 1 ≤ maxLen) := Lib.hid (by unfold maxLen; omega)
          have HC2 : Hid ((j + 1) * 16 ≤ 140737488355328) := Lib.hid (by omega)
          clear htk hpu hown hb HPU HTK
          go_wp2_with fail
          refine HPK.out.mono ?_
          rintro e w2 ⟨rfl, b2⟩
          have O2 := Lib.hid (HO.out.kept (Lib.grownBy_below (World.grownBy.refl wr none) b2) (by cases h : Value.ownBlock _ <;> simp))
          have B2 := Lib.hid (HB.out.trans (b2.mono HB.out.size))
          have HC3 : Hid (∀ o : Obj, w.heap.size ≤ (w2.alloc o).heap.size) := Lib.hid (fun o => by have := B2.out.size; simp; omega)
          clear b2 HO HB
          go_wp2_with (at_builtin; refine wpList_append_lies _ rfl _ _ 22 rfl w.heap.size 9 i0 (.string ⟨#[]⟩) 1 16 Tryz.underlying22 hi0 hz0 hz1 hz2 rfl (by omega) _ j _ rfl (O2.out.alloc _) ⟨w2.heap.size, 0, none⟩ 1 1 [strV z] rfl rfl (World.news_of_block (cs := #[strV z]) (t := 9) (fr := (0, 0)) (heap_alloc_new w2 _)) (strV_one z) (by omega) HC1.out HC2.out (HC3.out _) (w2.heap.size + 1) (by simp) ?_)
          intro g3 cap3 w3 hown3 hg3 _ _
          have B3 := Lib.hid ((B2.out.alloc B2.out.size _).grown hg3 (HC3.out _) (fun j hj => (O2.out.lt j hj).1))
          have O3 := Lib.hid hown3
          clear hown3 hg3 O2 B2
          go_wp2
          go_roundw
          case rel => exact ⟨j + 1, by omega, by go_num, by rw [HT1.out, List.map_append, List.map_take]; exact O3.out, B3.out⟩
          case measure => simp [intOf]; omega
        · obtain rfl : j = n := by omega
          rw [List.take_of_length_le (by rw [HEL.out]; omega)] at hown
          obtain ⟨a2, c2, rfl, hrow⟩ := own_strs hown HEL.out
          rw [HEL.out]
          obtain ⟨bb, off, rfl, hbb⟩ := strRow_some hrow (by rw [HEL.out]; exact HPOS.out)
          have HR := Lib.hid hrow
          have HB := Lib.hid hb
          clear hown hrow hb
          go_wp2
          go_ret
          exact ⟨⟨bb, off, c2, by rw [HNN.out]; rfl, HR.out, hbb⟩, HB.out⟩

set_option maxHeartbeats 400000 in
theorem refpublic5 (w : World) (seed : ByteArray) (h : Nat) (hh : h ≤ 4) (hs : seed.size ≤ 1000000) :
    Calls Tryz.prog 9 #[.string seed, .int .i64 (h : Int)] w fun e w' => e = .returned (.string (keyB seed h)) ∧ Below w.heap.size w w' := by
  have HLV := Lib.hid (refleaves w seed h hh hs)
  have hrt := fun W b off c h1 h2 => refroot_any W b off c (leavesL seed h) h hh (leavesL_length _ _) h1 h2 (leaves_small _ _)
  rw [leavesL_length] at hrt
  have HRT := Lib.hid hrt
  have HNM := Lib.hid (fun W => refnamed h (rootB seed h) hh (by rw [rootB_size]; omega) W)
  have HKE := Lib.hid (show keyB seed h = namedB h (rootB seed h) from rfl)
  have HRE := Lib.hid (show rootB seed h = (rowN h (leavesL seed h)).getD 0 ByteArray.empty from rfl)
  clear hrt hs
  go_enter Tryz.func9, Tryz.ntmps9
  go_wp2_with fail
  refine HLV.out.mono ?_
  rintro e w1 ⟨⟨bb, off, c, rfl, r1, hb1⟩, b1⟩
  have HR1 := Lib.hid (HRT.out w1 bb off c r1 hb1)
  have B1 := Lib.hid b1
  rw [← HRE.out] at HR1
  clear r1 b1 hb1
  go_wp2_with fail
  refine HR1.out.mono ?_
  rintro e w2 ⟨rfl, b2⟩
  have B2 := Lib.hid (B1.out.trans (b2.mono B1.out.size))
  clear b2
  go_wp2_with fail
  refine (HNM.out w2).mono ?_
  rintro e w3 ⟨rfl, b3⟩
  have B3 := Lib.hid (B2.out.trans (b3.mono B2.out.size))
  rw [← HKE.out]
  clear b3
  go_wp2
  go_ret
  exact ⟨rfl, B3.out⟩

set_option maxHeartbeats 2000000 in
set_option maxRecDepth 100000 in
theorem refsign5 (w : World) (seed : ByteArray) (h leaf : Nat) (m : ByteArray) (hh : h ≤ 4) (hl : leaf < 2 ^ h) (hs : seed.size ≤ 1000000) (hm : m.size ≤ 1000000) :
    Calls Tryz.prog 13 #[.string seed, .int .i64 (h : Int), .int .i64 (leaf : Int), .string m] w fun e w' => e = .returned (.string (sigB seed h leaf m)) ∧ Below w.heap.size w w' := by
  have h16 := pow_le16 h hh
  have HLV := Lib.hid (fun W => refleaves W seed h hh hs)
  have hpt := fun W b off c h1 h2 => refpath_any W b off c (leavesL seed h) h leaf hh (leavesL_length _ _) hl h1 h2 (leaves_small _ _)
  rw [leavesL_length] at hpt
  have HPT := Lib.hid hpt
  have htot : totL [m] ≤ 9000000 := by simp [totL]; omega
  have HTG := Lib.hid (fun W a c h2 => reftag_any W 6 a c [m] h2 htot (by simp))
  rw [← show msgB m = shaB ⟨(inputL 6 [m]).toArray⟩ from rfl] at HTG
  have HSG := Lib.hid (fun W => refsign W seed leaf (msgB m) (by omega) hs (msgB_size m))
  rw [← show valsL seed leaf m = signL seed leaf (digL (msgB m).data.toList) from rfl] at HSG
  rw [← show pathL seed h leaf = pathTo (leavesL seed h) leaf h from rfl] at HPT
  have hk2 := numOk_yes (k := 2) (n := (leaf : Int)) (by omega) (by simp; omega)
  have hB2 := numB_yes hk2
  have hsh := number2_any (leaf : Int)
  rw [hB2, hk2, Int.toNat_natCast] at hsh
  have HSH := Lib.hid hsh
  have HVL := Lib.hid (valsL_length seed leaf m)
  have HPL := Lib.hid (pathL_length seed h leaf)
  have hv32 := valsL_32 seed leaf m
  have hp32 := pathL_32 seed h leaf hl
  have HSI := Lib.hid (show sigB seed h leaf m = be 2 leaf ++ catB (valsL seed leaf m) ++ catB (pathL seed h leaf) from rfl)
  have hcat : ∀ (l : List ByteArray) (k : Nat), k < l.length → catB (l.take (k + 1)) = catB (l.take k) ++ l.getD k ByteArray.empty := by
    intro l k hk
    rw [List.take_succ_eq_append_getElem hk, catB_snoc]; simp [hk]
  have hcsz : ∀ (l : List ByteArray) (k : Nat), All32 l → l.length ≤ 100 → (catB (l.take k)).size ≤ 3200 := by
    intro l k h1 h2
    have : All32 (l.take k) := fun i hi => by
      rw [List.length_take] at hi
      have := h1 i (by omega)
      rw [List.getD_eq_getElem?_getD] at this ⊢
      rw [List.getElem?_take_of_lt (by omega)]
      exact this
    rw [catB_size _ this, List.length_take]; omega
  have HCAT := Lib.hid hcat
  have HCS1 := Lib.hid (fun k => hcsz _ k hv32 (by rw [valsL_length]; omega))
  have HCS2 := Lib.hid (fun k => hcsz _ k hp32 (by rw [pathL_length]; omega))
  have HE1 := Lib.hid (fun k (hk : k < (valsL seed leaf m).length) => hv32 k hk)
  have HE2 := Lib.hid (fun k (hk : k < (pathL seed h leaf).length) => hp32 k hk)
  have HBE := Lib.hid (be_size 2 leaf)
  clear hpt hsh hk2 hB2 htot hs hm hcat hcsz hv32 hp32
  generalize valsL seed leaf m = V at *
  generalize pathL seed h leaf = Q at *
  generalize be 2 leaf = N0 at *
  go_enter Tryz.func13, Tryz.ntmps13
  go_wp2_with fail
  refine (HSH.out _).mono ?_
  rintro e w1 ⟨rfl, b1⟩
  have B1 := Lib.hid b1
  clear b1
  go_wp2_with fail
  have c2 := (B1.out).alloc B1.out.size (.cells #[.string m] 9)
  refine (HTG.out _ _ _ (strs1t _ _ _)).mono ?_
  rintro e w2 ⟨rfl, b2⟩
  have B2 := Lib.hid (c2.trans (b2.mono c2.size))
  clear b2 c2
  go_wp2_with fail
  refine (HSG.out _).mono ?_
  rintro e w3 ⟨⟨va, vc, rfl, r3⟩, b3⟩
  have B3 := Lib.hid (B2.out.trans (b3.mono B2.out.size))
  have R3 := Lib.hid r3
  clear b3 r3
  go_wp2_with fail
  refine (HLV.out _).mono ?_
  rintro e w4 ⟨⟨lb, lo, lc, rfl, r4, hlb⟩, b4⟩
  have B4 := Lib.hid (B3.out.trans (b4.mono B3.out.size))
  have R4 := Lib.hid (R3.out.below b4)
  have HP4 := Lib.hid (HPT.out w4 lb lo lc r4 hlb)
  clear b4 r4 hlb
  go_wp2_with fail
  refine HP4.out.mono ?_
  rintro e w5 ⟨⟨pa, pc, rfl, r5⟩, b5⟩
  have B5 := Lib.hid (B4.out.trans (b5.mono B4.out.size))
  have RV := Lib.hid (R4.out.below b5)
  have RP := Lib.hid r5
  clear b5 r5 HLV HPT HSH HTG HSG HP4
  go_wp2
  go_loopw [9, 13] (fun s i wr => ∃ k : Nat, k ≤ 67 ∧ i = .int .i64 k ∧ s = .string (N0 ++ catB (V.take k)) ∧ wr = w5) (fun _ i _ => 67 - (intOf i).toNat)
  case atStart => exact ⟨0, by omega, rfl, by simp [catB_nil], rfl⟩
  case round =>
    obtain ⟨k, hk, rfl, rfl, rfl⟩ := hrel
    by_cases hlt : k < 67
    · obtain ⟨vb, vo, rfl, _⟩ := strRow_some RV.out (by rw [HVL.out]; omega)
      have ck := strRow_cell RV.out k (by rw [HVL.out]; exact hlt)
      have hz : (N0 ++ catB (V.take k)).size ≤ 3300 := by rw [ByteArray.size_append, HBE.out]; have := HCS1.out k; omega
      have hzk : (V.getD k ByteArray.empty).size ≤ 32 := by rw [HE1.out k (by rw [HVL.out]; exact hlt)]; omega
      have HN := Lib.hid (show N0 ++ catB (V.take (k + 1)) = (N0 ++ catB (V.take k)) ++ V.getD k ByteArray.empty by rw [HCAT.out V k (by rw [HVL.out]; exact hlt), ByteArray.append_assoc])
      generalize V.getD k ByteArray.empty = x at *
      generalize N0 ++ catB (V.take k) = s at *
      go_wp2
      go_roundw
      case rel => exact ⟨k + 1, by omega, by go_num, by rw [HN.out], by first | rfl | trivial⟩
      case measure => simp [intOf]; omega
    · obtain rfl : k = 67 := by omega
      rw [List.take_of_length_le (by rw [HVL.out]; omega)]
      have hzz : (N0 ++ catB V).size ≤ 3300 := by
        rw [ByteArray.size_append, HBE.out]
        have := HCS1.out 67
        rw [List.take_of_length_le (by rw [HVL.out]; omega)] at this
        omega
      have HSI2 := Lib.hid HSI.out
      generalize N0 ++ catB V = S0 at *
      have HZ := Lib.hid hzz
      clear hzz hk hlt HCS1 HE1 RV R4
      rw [show ((67 : Nat) : Int) = 67 from rfl]
      rename World => w5
      go_wp2
      go_loopw [9, 14] (fun s i wr => ∃ k : Nat, k ≤ h ∧ i = .int .i64 k ∧ s = .string (S0 ++ catB (Q.take k)) ∧ wr = w5) (fun _ i _ => h - (intOf i).toNat)
      case atStart => exact ⟨0, by omega, rfl, by simp [catB_nil], rfl⟩
      case round =>
        obtain ⟨k, hk, rfl, rfl, rfl⟩ := hrel
        by_cases hlt : k < h
        · obtain ⟨vb, vo, rfl, _⟩ := strRow_some RP.out (by rw [HPL.out]; omega)
          have ck := strRow_cell RP.out k (by rw [HPL.out]; exact hlt)
          have hz : (S0 ++ catB (Q.take k)).size ≤ 6600 := by rw [ByteArray.size_append]; have := HCS2.out k; have := HZ.out; omega
          have hzk : (Q.getD k ByteArray.empty).size ≤ 32 := by rw [HE2.out k (by rw [HPL.out]; exact hlt)]; omega
          have HN := Lib.hid (show S0 ++ catB (Q.take (k + 1)) = (S0 ++ catB (Q.take k)) ++ Q.getD k ByteArray.empty by rw [HCAT.out Q k (by rw [HPL.out]; exact hlt), ByteArray.append_assoc])
          generalize Q.getD k ByteArray.empty = x at *
          generalize S0 ++ catB (Q.take k) = s at *
          go_wp2
          go_roundw
          case rel => exact ⟨k + 1, by omega, by go_num, by rw [HN.out], by first | rfl | trivial⟩
          case measure => simp [intOf]; omega
        · obtain rfl : k = h := by omega
          rw [List.take_of_length_le (by rw [HPL.out]; omega)]
          go_wp2
          go_ret
          exact ⟨by rw [HSI2.out]; rfl, B5.out⟩
end Go.Proofs.YtggfmnmopfdiaaaGreatDoor
namespace Go.Proofs.YtggfmnmopfdiaaaGreatDoor
open Go.RowKit Go.Pal

theorem public_nil (w : World) :
    Calls Tryz.prog 25 #[.pointer none] w fun e w' => e = .returned (.string ⟨#[]⟩) ∧ w = w' := by
  go_enter Tryz.func25, Tryz.ntmps25
  go_wp2
  go_ret
  exact ⟨rfl, rfl⟩
theorem used_nil (w : World) :
    Calls Tryz.prog 12 #[.pointer none] w fun e w' => e = .returned (.int .i64 0) ∧ w = w' := by
  go_enter Tryz.func12, Tryz.ntmps12
  go_wp2
  go_ret
  exact ⟨rfl, rfl⟩
/-- A height made one from 0 to 2. -/
def smallN (h : Int) : Nat := ((h % 18446744073709551616) % 3).toNat
theorem smallN_le (h : Int) : smallN h ≤ 2 := by unfold smallN; omega
end Go.Proofs.YtggfmnmopfdiaaaGreatDoor
