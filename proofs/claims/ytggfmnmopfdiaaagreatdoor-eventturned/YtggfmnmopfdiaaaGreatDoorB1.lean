/-
  strings.Clone gives the same bytes: the library's contract of its inner function, laid at this translation.
  Plain mathematics for layer 3: the digits of a digest. No program in sight.
  Contracts of wots.Digits and of the document's Digits.
  Contracts of wots.Chain, wots.Secret and of the document's Step, Chain, Secret.
  Contracts of the law's own awake, same, long and fit.
  Plain mathematics for layer 4: trees of digests. No program in sight.
  Contracts of merkle: pair.root, rowAbove, areLeaves, Fold.
-/
import Derived.Shelf.LaysM
import Derived.Shelf.Strconv.Clone
import Derived.Test.YtggfmnmopfdiaaaGreatDoorRows
import Derived.WalkKit
import Derived.WalkSpells
import Derived.WalkLawsBesides
import Derived.Test.YtggfmnmopfdiaaaGreatDoorShPlain
import Derived.Test.YtggfmnmopfdiaaaGreatDoorSh4
import Derived.Deep.RegionHeld3
import Derived.Deep.AppendLies
import Derived.Test.YtggfmnmopfdiaaaGreatDoorRefIn
import Derived.Deep.OwnRows
import Derived.Deep.RegionWith
namespace Go.Proofs.YtggfmnmopfdiaaaGreatDoor
open Go.Shelf Go.RowKit
def cloneRen : Ren := ⟨fun | 316 => 49 | n => n, fun | 0 => 0 | 3 => 3 | 4 => 4 | 9 => 9 | 37 => 79 | 127 => 116 | 5 => 5 | n => n, fun | n => n⟩
theorem cloneLays : Go.Proofs.LaysM.n316 Tryz.prog cloneRen := {
  mixed := by kernel_rfl
  f316 := Tryz.func49.trans (congrArg some (by kernel_rfl))
  t0 := Tryz.underlying0
  a0 := Tryz.isAgg0
  z0 := Tryz.sizeOf0
  v0 := Tryz.zeroValue0
  t3 := Tryz.underlying3
  a3 := Tryz.isAgg3
  z3 := Tryz.sizeOf3
  v3 := Tryz.zeroValue3
  t4 := Tryz.underlying4
  a4 := Tryz.isAgg4
  z4 := Tryz.sizeOf4
  v4 := Tryz.zeroValue4
  t5 := Tryz.underlying5
  a5 := Tryz.isAgg5
  z5 := Tryz.sizeOf5
  v5 := Tryz.zeroValue5
  t9 := Tryz.underlying9
  a9 := Tryz.isAgg9
  z9 := Tryz.sizeOf9
  v9 := Tryz.zeroValue9
  t37 := Tryz.underlying79
  a37 := Tryz.isAgg79
  z37 := Tryz.sizeOf79
  v37 := Tryz.zeroValue79
  t127 := Tryz.underlying116
  a127 := Tryz.isAgg116
  z127 := Tryz.sizeOf116
  v127 := Tryz.zeroValue116
  i0 := by kernel_rfl
  i3 := by kernel_rfl
  i4 := by kernel_rfl
  i5 := by kernel_rfl
  i9 := by kernel_rfl
  i37 := by kernel_rfl
  i127 := by kernel_rfl }

theorem clone_in (s : ByteArray) (w : World) (h : s.size ≤ 281474976710656) :
    Calls Tryz.prog 49 #[.string s] w fun e w' => e = .returned (.string s) ∧ Below w.heap.size w w' := Any.stringslite_Clone cloneLays s w h

set_option maxHeartbeats 400000 in
theorem clone_any (s : ByteArray) (w : World) (h : s.size ≤ 281474976710656) :
    Calls Tryz.prog 23 #[.string s] w fun e w' => e = .returned (.string s) ∧ Below w.heap.size w w' := by
  go_enter Tryz.func23, Tryz.ntmps23
  go_wp2_with (go_at_call 49; refine (clone_in s _ h).mono ?_; rintro e w' ⟨rfl, hb⟩)
  go_ret
  exact ⟨rfl, hb⟩

end Go.Proofs.YtggfmnmopfdiaaaGreatDoor
namespace Go.Pal
open Go.RowKit

def intV (n : Nat) : Value := .int .i64 n
/-- The upper and the lower four bits of each byte. -/
def nibs (l : List UInt8) : List Nat := l.flatMap fun b => [b.toNat / 16, b.toNat % 16]
/-- What each lacks to 15, added up. -/
def lackL (l : List UInt8) : Nat := (l.map fun b => (15 - b.toNat / 16) + (15 - b.toNat % 16)).sum
def digL (l : List UInt8) : List Nat := nibs l ++ [lackL l / 256, lackL l / 16 % 16, lackL l % 16]

theorem nibs_length (l : List UInt8) : (nibs l).length = 2 * l.length := by
  induction l with
  | nil => rfl
  | cons b l ih => simp only [nibs, List.flatMap_cons, List.length_append, List.length_cons, List.length_nil] at ih ⊢; omega
theorem digL_length (l : List UInt8) : (digL l).length = 2 * l.length + 3 := by simp [digL, nibs_length]
theorem nibs_snoc (l : List UInt8) (b : UInt8) : nibs (l ++ [b]) = nibs l ++ [b.toNat / 16, b.toNat % 16] := by simp [nibs]
theorem lackL_snoc (l : List UInt8) (b : UInt8) : lackL (l ++ [b]) = lackL l + ((15 - b.toNat / 16) + (15 - b.toNat % 16)) := by simp [lackL]
theorem lackL_le (l : List UInt8) : lackL l ≤ 30 * l.length := by
  induction l with
  | nil => simp [lackL]
  | cons b l ih =>
    have e : lackL (b :: l) = (15 - b.toNat / 16) + (15 - b.toNat % 16) + lackL l := by simp [lackL]
    rw [e, List.length_cons]; omega
def lackN (l : List Nat) : Nat := (l.map fun n => 15 - n).sum
theorem lackN_nibs (l : List UInt8) : lackN (nibs l) = lackL l := by
  induction l with
  | nil => rfl
  | cons b l ih =>
    have e : lackL (b :: l) = (15 - b.toNat / 16) + (15 - b.toNat % 16) + lackL l := by simp [lackL]
    have e2 : nibs (b :: l) = b.toNat / 16 :: b.toNat % 16 :: nibs l := by simp [nibs]
    rw [e, e2, ← ih]
    simp [lackN]; omega
theorem lackN_take (l : List Nat) (k : Nat) (h : k < l.length) : lackN (l.take (k + 1)) = lackN (l.take k) + (15 - l.getD k 0) := by
  have e : l.getD k 0 = l[k] := by simp [h]
  rw [e, List.take_succ_eq_append_getElem h]
  simp only [lackN, List.map_append, List.sum_append, List.map_cons, List.map_nil, List.sum_cons, List.sum_nil, Nat.add_zero]
theorem lackN_le (l : List Nat) : lackN l ≤ 15 * l.length := by
  induction l with
  | nil => simp [lackN]
  | cons b l ih =>
    have e : lackN (b :: l) = (15 - b) + lackN l := by simp [lackN]
    rw [e, List.length_cons]; omega
theorem nibs_lt (l : List UInt8) : ∀ n ∈ nibs l, n < 16 := by
  intro n hn
  simp only [nibs, List.mem_flatMap, List.mem_cons, List.not_mem_nil, or_false] at hn
  obtain ⟨b, _, h | h⟩ := hn
  · have := b.toNat_lt; omega
  · omega
theorem getD_lt (l : List Nat) (m : Nat) (hm : 0 < m) (h : ∀ n ∈ l, n < m) (k : Nat) : l.getD k 0 < m := by
  rw [List.getD_eq_getElem?_getD]
  cases hk : l[k]? with
  | none => simpa using hm
  | some n => exact h n (List.mem_of_getElem? hk)
theorem digL_lt (l : List UInt8) (h : l.length ≤ 128) : ∀ n ∈ digL l, n < 16 := by
  intro n hn
  have hle := lackL_le l
  simp only [digL, List.mem_append, List.mem_cons, List.not_mem_nil, or_false] at hn
  rcases hn with h1 | h1 | h1 | h1
  · exact nibs_lt l n h1
  · omega
  · omega
  · omega
theorem ints_get? (l : List Nat) (k : Nat) (h : k < l.length) : (l.map intV)[k]? = some (.int .i64 (l.getD k 0 : Nat)) := by
  simp [h, intV]
theorem and15 (b : UInt8) : bits BinOp.and IntKind.u8 (b.toNat : Int) 15 = ((b.toNat % 16 : Nat) : Int) := by
  have h : ∀ b : UInt8, bits BinOp.and IntKind.u8 (b.toNat : Int) 15 = ((b.toNat % 16 : Nat) : Int) := by
    intro b
    show IntKind.u8.wrap ((BitVec.ofInt 8 (b.toNat : Int) &&& BitVec.ofInt 8 15).toNat : Int) = _
    rw [BitVec.toNat_and]
    have e1 : (BitVec.ofInt 8 15).toNat = 2 ^ 4 - 1 := by decide
    have hb := b.toNat_lt
    rw [e1, Nat.and_two_pow_sub_one_eq_mod, BitVec.toNat_ofInt, IntKind.wrap_u8]
    omega
  exact h b
theorem and15i (n : Nat) : bits BinOp.and IntKind.i64 (n : Int) 15 = ((n % 16 : Nat) : Int) := by
  show IntKind.i64.wrap ((BitVec.ofInt 64 (n : Int) &&& BitVec.ofInt 64 15).toNat : Int) = _
  rw [BitVec.toNat_and]
  have e1 : (BitVec.ofInt 64 15).toNat = 2 ^ 4 - 1 := by decide
  rw [e1, Nat.and_two_pow_sub_one_eq_mod, BitVec.toNat_ofInt, IntKind.wrap_i64]
  omega
theorem data_take (s : ByteArray) (k : Nat) (h : k < s.size) : s.data.toList.take (k + 1) = s.data.toList.take k ++ [s[k]] := by
  rw [List.take_succ_eq_append_getElem (by simpa using h)]; rfl
end Go.Pal
namespace Go.Proofs.YtggfmnmopfdiaaaGreatDoor
open Go.RowKit Go.Pal

theorem intV_all (l : List Nat) : ∀ u ∈ l.map intV, u.oneCell' = true := by
  intro u hu
  obtain ⟨n, _, rfl⟩ := List.mem_map.1 hu
  rfl

set_option maxHeartbeats 400000 in
theorem digits_no (s : ByteArray) (h : s.size ≠ 32) (w : World) :
    Calls Tryz.prog 87 #[.string s] w fun e w' => e = .returned (.tuple #[.slice none 0 0, .bool false]) ∧ w = w' := by
  have hd : ((s.size : Int) == 32) = false := by simp; omega
  go_enter Tryz.func87, Tryz.ntmps87
  go_wp2
  go_ret2
  exact ⟨rfl, rfl⟩

set_option maxHeartbeats 1000000 in
set_option maxRecDepth 100000 in
theorem digits_yes (s : ByteArray) (h : s.size = 32) (w : World) :
    Calls Tryz.prog 87 #[.string s] w fun e w' => (∃ v, e = .returned (.tuple #[v, .bool true]) ∧ w'.ownsRow w.heap.size 3 1 v 67 ((digL s.data.toList).map intV)) ∧ Below w.heap.size w w' := by
  obtain ⟨i0, hi, hz0, hz1, hz2⟩ := info_parts (show (Tryz.prog.info? 3).map (fun i => (i.zero, i.size, i.bytes)) = some (some (.int .i64 0), 1, 8) by kernel_rfl)
  have hd : ((s.size : Int) == 32) = true := by simp; omega
  have HS := Lib.hid h
  have HM1 : Hid (i0.bytes * 67 ≤ 281474976710656) := Lib.hid (by rw [hz2]; omega)
  have HM2 : Hid (67 ≤ maxLen) := Lib.hid (by unfold maxLen; omega)
  have hsz : s.size ≤ 32 := by omega
  have HI := Lib.hid hi
  have HZ0 := Lib.hid hz0
  have HZ1 := Lib.hid hz1
  have HZ2 := Lib.hid hz2
  clear h hi hz0 hz1 hz2
  go_enter Tryz.func87, Tryz.ntmps87
  go_wp2_with (at_make; refine wpList_make_own _ rfl _ _ 104 rfl w.heap.size 3 i0 (.int .i64 0) 1 Tryz.underlying104 HI.out HZ0.out HZ1.out .i64 .i64 _ 67 rfl rfl rfl HM1.out HM2.out (Nat.le_refl _) ?_)
  intro w1 hown1 hg1
  have HO1 := Lib.hid hown1
  have HB1 := Lib.hid ((Below.refl w.heap.size w).grown hg1 (Nat.le_refl _) (by intro k hk; cases hk))
  clear hown1 hg1
  go_wp2
  go_loopw [4, 5, 15] (fun v n i wr => ∃ k l : Nat, k ≤ s.size ∧ i = .int .i64 k ∧ n = .int .i64 l ∧ l = lackL (s.data.toList.take k) ∧ l ≤ 30 * k ∧ wr.ownsRow w.heap.size 3 1 v (2 * k) ((nibs (s.data.toList.take k)).map intV) ∧ Below w.heap.size w wr) (fun _ _ i _ => s.size - (intOf i).toNat)
  case atStart => exact ⟨0, 0, by omega, rfl, rfl, rfl, by omega, HO1.out, HB1.out⟩
  case round =>
    clear HO1 HB1
    obtain ⟨k, l, hk, rfl, rfl, hl, hl2, hown, hb⟩ := hrel
    by_cases hlt : k < s.size
    · have hn := nibs_snoc (s.data.toList.take k) s[k]
      have hq := lackL_snoc (s.data.toList.take k) s[k]
      rw [← data_take s k hlt] at hn hq
      rw [← hl] at hq
      have hbl := s[k].toNat_lt
      have ha := and15 s[k]
      have HN := Lib.hid hn
      have HQ := Lib.hid hq
      have HO := Lib.hid hown
      have HB := Lib.hid hb
      clear hn hq hown hb hl hd
      have HC1 : Hid (2 * k + 2 ≤ maxLen) := Lib.hid (by unfold maxLen; omega)
      have HC2 : Hid ((2 * k + 2) * 8 ≤ 140737488355328) := Lib.hid (by omega)
      have HC3 : Hid (∀ o : Obj, w.heap.size ≤ (wr.alloc o).heap.size) := Lib.hid (fun o => by have := HB.out.size; simp; omega)
      go_wp2
      go_region
      go_wp2_with (at_builtin; refine wpList_append_lies _ rfl _ _ 104 rfl w.heap.size 3 i0 (.int .i64 0) 1 8 Tryz.underlying104 HI.out HZ0.out HZ1.out HZ2.out rfl (by omega) _ (2 * k) _ rfl ((HO.out.alloc _).drew) ⟨wr.heap.size, 0, none⟩ 2 2 [intV (s[k].toNat / 16), intV (s[k].toNat % 16)] rfl rfl (World.news_of_block (cs := #[intV (s[k].toNat / 16), intV (s[k].toNat % 16)]) (t := 3) (fr := (0, 0)) (heap_alloc_new wr _)) (intV_all [_, _]) (by omega) HC1.out HC2.out (HC3.out _) (wr.heap.size + 1) (by simp) ?_)
      intro g cap w2 hown2 hg2 _ _
      have HO2 := Lib.hid hown2
      have HB2 := Lib.hid (((HB.out.alloc HB.out.size _).drew).grown hg2 (HC3.out _) (fun j hj => (HO.out.lt j hj).1))
      clear hown2 hg2 HO HB HC1 HC2 HC3 ha
      generalize s[k].toNat = b at *
      go_wp2
      go_roundw
      case rel =>
        refine ⟨k + 1, l + ((15 - b / 16) + (15 - b % 16)), by omega, by go_num, ?_, HQ.out.symm, by omega, ?_, HB2.out⟩
        · go_num
        · have h5 := HO2.out
          rw [HN.out, List.map_append]
          exact h5
      case measure => simp [intOf]; omega
    · obtain rfl : k = s.size := by omega
      have h32 := HS.out
      have hlen : s.data.toList.length = s.size := by simp
      have htk : s.data.toList.take s.size = s.data.toList := List.take_of_length_le (by omega)
      rw [htk] at hl hown
      have hdl : (digL s.data.toList).map intV = (nibs s.data.toList).map intV ++ [intV (l / 256), intV (l / 16 % 16), intV (l % 16)] := by rw [hl, digL, List.map_append]; rfl
      have HD := Lib.hid hdl
      have HO := Lib.hid hown
      have HB := Lib.hid hb
      have a1 : bits BinOp.and IntKind.i64 ((l : Int) / 16) 15 = (l : Int) / 16 % 16 := and15i (l / 16)
      have a2 : bits BinOp.and IntKind.i64 (l : Int) 15 = (l : Int) % 16 := and15i l
      have HA := Lib.hid h32
      have hl3 : l ≤ 960 := by omega
      clear hl hown hb hdl htk hlen hl2 hk hlt h32 hd
      have HC1 : Hid (2 * s.size + 3 ≤ maxLen) := Lib.hid (by unfold maxLen; omega)
      have HC2 : Hid ((2 * s.size + 3) * 8 ≤ 140737488355328) := Lib.hid (by omega)
      have HC3 : Hid (∀ o : Obj, w.heap.size ≤ (wr.alloc o).heap.size) := Lib.hid (fun o => by have := HB.out.size; simp; omega)
      go_wp2_with (at_builtin; refine wpList_append_lies _ rfl _ _ 104 rfl w.heap.size 3 i0 (.int .i64 0) 1 8 Tryz.underlying104 HI.out HZ0.out HZ1.out HZ2.out rfl (by omega) _ (2 * s.size) _ rfl (HO.out.alloc _) ⟨wr.heap.size, 0, none⟩ 3 3 [intV (l / 256), intV (l / 16 % 16), intV (l % 16)] rfl rfl (World.news_of_block (cs := #[intV (l / 256), intV (l / 16 % 16), intV (l % 16)]) (t := 3) (fr := (0, 0)) (heap_alloc_new wr _)) (intV_all [_, _, _]) (by omega) HC1.out HC2.out (HC3.out _) (wr.heap.size + 1) (by simp) ?_)
      intro g cap w2 hown2 hg2 _ _
      have HB2 := Lib.hid ((HB.out.alloc HB.out.size _).grown hg2 (HC3.out _) (fun j hj => (HO.out.lt j hj).1))
      rw [← HD.out, HA.out] at hown2
      have HO2 := Lib.hid hown2
      clear hown2 hg2
      go_wp2
      go_ret2
      exact ⟨⟨_, rfl, by rw [HA.out]; exact HO2.out⟩, HB2.out⟩

set_option maxHeartbeats 1000000 in
set_option maxRecDepth 100000 in
theorem refdigits (s : ByteArray) (h : s.size = 32) (w : World) :
    Calls Tryz.prog 62 #[.string s] w fun e w' => (∃ v, e = .returned v ∧ w'.ownsRow w.heap.size 3 1 v 67 ((digL s.data.toList).map intV)) ∧ Below w.heap.size w w' := by
  obtain ⟨i0, hi, hz0, hz1, hz2⟩ := info_parts (show (Tryz.prog.info? 3).map (fun i => (i.zero, i.size, i.bytes)) = some (some (.int .i64 0), 1, 8) by kernel_rfl)
  have HS := Lib.hid h
  have hsz : s.size ≤ 32 := by omega
  clear h
  go_enter Tryz.func62, Tryz.ntmps62
  go_wp2
  go_loopw [3, 5] (fun v i wr => ∃ k : Nat, k ≤ s.size ∧ i = .int .i64 k ∧ wr.ownsRow w.heap.size 3 1 v (2 * k) ((nibs (s.data.toList.take k)).map intV) ∧ Below w.heap.size w wr) (fun _ i _ => s.size - (intOf i).toNat)
  case atStart => exact ⟨0, by omega, rfl, World.ownsRow_nil _ _ _ _, Below.refl _ _⟩
  case round =>
    obtain ⟨k, hk, rfl, hown, hb⟩ := hrel
    by_cases hlt : k < s.size
    · have hn := nibs_snoc (s.data.toList.take k) s[k]
      rw [← data_take s k hlt] at hn
      have hbl := s[k].toNat_lt
      have HN := Lib.hid hn
      have HO := Lib.hid hown
      have HB := Lib.hid hb
      have hk0 : (0 : Int) ≤ (k : Int) := by omega
      have hk1 : (k : Int) < (s.size : Int) := by omega
      have r1 : IntKind.i64.wrap (s[k].toNat : Int) = (s[k].toNat : Int) := by rw [IntKind.wrap_i64]; omega
      have r2 : IntKind.i64.wrap ((s[k].toNat : Int).tdiv 16) = (s[k].toNat : Int) / 16 := by rw [Int.tdiv_eq_ediv_of_nonneg (by omega), IntKind.wrap_i64]; omega
      have r4 : IntKind.i64.wrap ((s[k].toNat : Int) / 16) = (s[k].toNat : Int) / 16 := by rw [IntKind.wrap_i64]; omega
      have r3 : (s[k].toNat : Int).tmod 16 = (s[k].toNat : Int) % 16 := by rw [Int.tmod_eq_emod_of_nonneg (by omega)]
      clear hn hown hb
      have HC1 : Hid (2 * k + 2 ≤ maxLen) := Lib.hid (by unfold maxLen; omega)
      have HC2 : Hid ((2 * k + 2) * 8 ≤ 140737488355328) := Lib.hid (by omega)
      have HC3 : Hid (∀ o : Obj, w.heap.size ≤ (wr.alloc o).heap.size) := Lib.hid (fun o => by have := HB.out.size; simp; omega)
      go_wp2
      go_region_held3 (fun _ => True) (trivial) ((refine step_append_lies _ (by rfl) _ _ _ (by rfl) w.heap.size 3 i0 (.int .i64 0) 1 8 Tryz.underlying104 hi hz0 hz1 hz2 rfl (by omega) _ (2 * k) _ (by rfl) ((HO.out.alloc _).drew) ⟨wr.heap.size, 0, none⟩ 2 2 [intV (s[k].toNat / 16), intV (s[k].toNat % 16)] (by rfl) (by rfl) (World.news_of_block (cs := #[intV (s[k].toNat / 16), intV (s[k].toNat % 16)]) (t := 3) (fr := (0, 0)) (heap_alloc_new wr _)) (intV_all [_, _]) (by omega) HC1.out HC2.out (HC3.out _) (wr.heap.size + 1) (by simp) ?_; intro g cap w2 hown2 hg2 _ _))
      all_goals
        have HO2 := Lib.hid hown2
        have HB2 := Lib.hid (((HB.out.alloc HB.out.size _).drew).grown hg2 (HC3.out _) (fun j hj => (HO.out.lt j hj).1))
        clear hown2 hg2 HO HB HC1 HC2 HC3 r1 r2 r3 r4
        go_wp2
        go_roundw
        case rel =>
          refine ⟨k + 1, by omega, by go_num, ?_, HB2.out⟩
          have h5 := HO2.out
          rw [HN.out, List.map_append]
          exact h5
        case measure => simp [intOf]; omega
    · obtain rfl : k = s.size := by omega
      have h32 := HS.out
      have hlen : s.data.toList.length = s.size := by simp
      have htk : s.data.toList.take s.size = s.data.toList := List.take_of_length_le (by omega)
      rw [htk] at hown
      have hnl := nibs_length s.data.toList
      have hlt16 := nibs_lt s.data.toList
      have hlk := lackN_nibs s.data.toList
      rw [hlen, h32] at hnl
      rw [h32] at hown
      generalize hNB : nibs s.data.toList = NB at *
      have hdl : (digL s.data.toList).map intV = NB.map intV ++ [intV (lackN NB / 256), intV (lackN NB / 16 % 16), intV (lackN NB % 16)] := by rw [hlk, digL, List.map_append, hNB]; rfl
      obtain ⟨g, cap, hform, _, _⟩ := hown.form (by omega)
      rw [hform] at hown ⊢
      rw [show 2 * 32 = 64 from rfl] at hown ⊢
      have HD := Lib.hid hdl
      have HO := Lib.hid hown
      have HB := Lib.hid hb
      have HL := Lib.hid hlt16
      have HNL := Lib.hid hnl
      clear hown hb hdl htk hlen hk hlt h32 hform hlk hlt16 hNB hsz
      go_wp2
      go_loop [4, 6] (fun n i => ∃ j l : Nat, j ≤ 64 ∧ i = .int .i64 j ∧ n = .int .i64 l ∧ l = lackN (NB.take j) ∧ l ≤ 15 * j) (fun _ i => 64 - (intOf i).toNat)
      case atStart => exact ⟨0, 0, by omega, rfl, rfl, rfl, by omega⟩
      case round =>
        obtain ⟨j, l, hj, rfl, rfl, hl, hl2⟩ := hrel
        by_cases hlt : j < 64
        · have hnl := HNL.out
          have hst := lackN_take NB j (by omega)
          rw [← hl] at hst
          have c0 := (HO.out.cellAt j (by omega)).trans (ints_get? NB j (by omega))
          have hx := getD_lt NB 16 (by omega) HL.out j
          generalize NB.getD j 0 = x at *
          have HST := Lib.hid hst
          clear hst hl hnl
          go_wp2
          go_round
          case rel => exact ⟨j + 1, l + (15 - x), by omega, by go_num, by go_num, HST.out.symm, by omega⟩
          case measure => simp [intOf]; omega
        · obtain rfl : j = 64 := by omega
          have hnl := HNL.out
          rw [List.take_of_length_le (by omega)] at hl
          rw [← hl] at HD
          have HC1 : Hid (64 + 3 ≤ maxLen) := Lib.hid (by unfold maxLen; omega)
          have HC3 : Hid (∀ o : Obj, w.heap.size ≤ (wr.alloc o).heap.size) := Lib.hid (fun o => by have := HB.out.size; simp; omega)
          have hl3 : l ≤ 960 := by omega
          clear hl hnl hlt hj hl2
          rw [show ((64 : Nat) : Int) = 64 from rfl]
          go_wp2_with (at_builtin; refine wpList_append_lies _ rfl _ _ 104 rfl w.heap.size 3 i0 (.int .i64 0) 1 8 Tryz.underlying104 hi hz0 hz1 hz2 rfl (by omega) _ 64 _ rfl (HO.out.alloc _) ⟨wr.heap.size, 0, none⟩ 3 3 [intV (l / 256), intV (l / 16 % 16), intV (l % 16)] rfl rfl (World.news_of_block (cs := #[intV (l / 256), intV (l / 16 % 16), intV (l % 16)]) (t := 3) (fr := (0, 0)) (heap_alloc_new wr _)) (intV_all [_, _, _]) (by omega) HC1.out (by omega) (HC3.out _) (wr.heap.size + 1) (by simp) ?_)
          intro g2 cap2 w2 hown2 hg2 _ _
          have HB2 := Lib.hid ((HB.out.alloc HB.out.size _).grown hg2 (HC3.out _) (fun j hj => (HO.out.lt j hj).1))
          rw [← HD.out] at hown2
          have HO2 := Lib.hid hown2
          clear hown2 hg2
          go_wp2
          go_ret
          exact ⟨⟨_, rfl, HO2.out⟩, HB2.out⟩

end Go.Proofs.YtggfmnmopfdiaaaGreatDoor
namespace Go.Pal
open Go.RowKit
/-- A step on a chain. -/
def stepB (k : Int) (x : ByteArray) : ByteArray := shaB ⟨(inputL 1 [be 1 (k % 256).toNat, x]).toArray⟩
def chainB (k : Int) (x : ByteArray) : Nat → ByteArray
  | 0 => x
  | n + 1 => stepB k (chainB k x n)
/-- How many steps are gone. -/
def stepsN (n : Int) : Nat := (if n ≤ 1000 then n else 1000).toNat
def secretB (seed : ByteArray) (leaf k : Int) : ByteArray := shaB ⟨(inputL 2 [seed, be 2 leaf.toNat, be 1 k.toNat]).toArray⟩
theorem shaB_size' (s : ByteArray) : (shaB s).size = 32 := by
  show (shaL s.data.toList).toArray.size = 32
  rw [List.size_toArray, shaL_length]
theorem chainB_size (k : Int) (x : ByteArray) (hx : x.size ≤ 1000000) : ∀ n, (chainB k x n).size ≤ 1000000
  | 0 => hx
  | n + 1 => by rw [chainB, stepB, shaB_size']; omega
theorem strs3 (w : World) (t : TypeId) (x y z : ByteArray) : StrRow (w.alloc (.cells #[.string x, .string y, .string z] t)) (some ⟨w.heap.size, 0, none⟩) [x, y, z] := by
  refine .inr ⟨w.heap.size, 0, rfl, by simp, fun i hi => ?_⟩
  rw [World.cell?_alloc_mark]
  match i, hi with
  | 0, _ => rfl
  | 1, _ => rfl
  | 2, _ => rfl
end Go.Pal
namespace Go.Proofs.YtggfmnmopfdiaaaGreatDoor
open Go.RowKit Go.Pal

set_option maxHeartbeats 1000000 in
theorem chain_any (w : World) (k n : Int) (x : ByteArray) (hx : x.size ≤ 1000000) (ht : Tabs w) :
    Calls Tryz.prog 116 #[.int .i64 k, .string x, .int .i64 n] w fun e w' => e = .returned (.string (chainB k x (stepsN n))) ∧ Below w.heap.size w w' := by
  have ha := and255 k
  have hk := numOk_yes (k := 1) (n := k % 256) (by omega) (by simp; omega)
  have hB := numB_yes hk
  have hby := byte_any (k % 256) (by omega)
  rw [hB, hk] at hby
  have HBY := Lib.hid hby
  have HT := Lib.hid ht
  have HZ := Lib.hid (chainB_size k x hx)
  have hq := be_size 1 (k % 256).toNat
  have hstep : ∀ j, chainB k x (j + 1) = shaB ⟨(inputL 1 [be 1 (k % 256).toNat, chainB k x j]).toArray⟩ := fun j => rfl
  generalize be 1 (k % 256).toNat = B at *
  have HSTEP := Lib.hid hstep
  have HQ := Lib.hid hq
  clear hby hB hk ht hstep hq
  have hM : ∃ M, M = stepsN n := ⟨_, rfl⟩
  obtain ⟨M, hM⟩ := hM
  rw [← hM]
  by_cases hn : n ≤ 1000
  · have hMn : M = n.toNat := by rw [hM, stepsN, if_pos hn]
    clear hM
    have hle : M ≤ 1000 := by omega
    go_enter Tryz.func116, Tryz.ntmps116
    go_wp2_with fail
    refine (HBY.out _).mono ?_
    rintro e w1 ⟨rfl, b1⟩
    go_wp2_with fail
    refine (clone_any x _ (by omega)).mono ?_
    rintro e w2 ⟨rfl, b2⟩
    have B2 := Lib.hid (b1.trans (b2.mono b1.size))
    clear b1 b2 HBY ha
    have HMN := Lib.hid hMn
    clear hMn
    go_wp2
    go_loopw [9, 20] (fun v i wr => ∃ j : Nat, j ≤ M ∧ i = .int .i64 j ∧ v = .string (chainB k x j) ∧ Below w.heap.size w wr) (fun _ i _ => M - (intOf i).toNat)
    case atStart => exact ⟨0, by omega, rfl, rfl, B2.out⟩
    case round =>
      clear B2
      obtain ⟨j, hj, rfl, rfl, hb⟩ := hrel
      have hmn := HMN.out
      by_cases hlt : j < M
      · have hd : (j : Int) < n := by omega
        have hst := HSTEP.out j
        have hz := HZ.out j
        generalize chainB k x j = X at *
        generalize hX2 : chainB k x (j + 1) = X2 at *
        have HX2 := Lib.hid hX2
        have HST := Lib.hid hst
        have HB := Lib.hid hb
        have htot : totL [B, X] ≤ 2147483647 := by have := HQ.out; simp [totL]; omega
        have HTG := Lib.hid (fun W a c hT h => tag_any W 1 a c [B, X] hT h htot (by simp))
        clear hX2 hst hb htot hmn
        go_wp2_with fail
        have c3 := HB.out.alloc HB.out.size (.cells #[.string B, .string X] 9)
        refine (HTG.out _ _ _ (HT.out.below c3) (strs2 _ _ _)).mono ?_
        rintro e w4 ⟨rfl, b4⟩
        have C4 := Lib.hid (c3.trans (b4.mono c3.size))
        clear b4 c3
        rw [← HST.out]
        go_wp2
        go_roundw
        case rel => exact ⟨j + 1, by omega, by go_num, by rw [HX2.out], C4.out⟩
        case measure => simp [intOf]; omega
      · obtain rfl : j = M := by omega
        have hd : ¬ (j : Int) < n := by omega
        have HB := Lib.hid hb
        clear hb hmn
        go_wp2
        go_ret
        exact ⟨rfl, HB.out⟩
  · have hMn : M = 1000 := by rw [hM, stepsN, if_neg hn]; rfl
    clear hM
    have hn2 : 1000 < n := by omega
    have HMN := Lib.hid hMn
    clear hMn hn
    go_enter Tryz.func116, Tryz.ntmps116
    go_wp2_with fail
    refine (HBY.out _).mono ?_
    rintro e w1 ⟨rfl, b1⟩
    go_wp2_with fail
    refine (clone_any x _ (by omega)).mono ?_
    rintro e w2 ⟨rfl, b2⟩
    have B2 := Lib.hid (b1.trans (b2.mono b1.size))
    clear b1 b2 HBY ha
    go_wp2
    go_loopw [9, 20] (fun v i wr => ∃ j : Nat, j ≤ M ∧ i = .int .i64 j ∧ v = .string (chainB k x j) ∧ Below w.heap.size w wr) (fun _ i _ => M - (intOf i).toNat)
    case atStart => exact ⟨0, by omega, rfl, rfl, B2.out⟩
    case round =>
      clear B2
      obtain ⟨j, hj, rfl, rfl, hb⟩ := hrel
      have hmn := HMN.out
      by_cases hlt : j < M
      · have hd : j < 1000 := by omega
        have hst := HSTEP.out j
        have hz := HZ.out j
        generalize chainB k x j = X at *
        generalize hX2 : chainB k x (j + 1) = X2 at *
        have HX2 := Lib.hid hX2
        have HST := Lib.hid hst
        have HB := Lib.hid hb
        have htot : totL [B, X] ≤ 2147483647 := by have := HQ.out; simp [totL]; omega
        have HTG := Lib.hid (fun W a c hT h => tag_any W 1 a c [B, X] hT h htot (by simp))
        clear hX2 hst hb htot hmn
        go_wp2_with fail
        have c3 := HB.out.alloc HB.out.size (.cells #[.string B, .string X] 9)
        refine (HTG.out _ _ _ (HT.out.below c3) (strs2 _ _ _)).mono ?_
        rintro e w4 ⟨rfl, b4⟩
        have C4 := Lib.hid (c3.trans (b4.mono c3.size))
        clear b4 c3
        rw [← HST.out]
        go_wp2
        go_roundw
        case rel => exact ⟨j + 1, by omega, by go_num, by rw [HX2.out], C4.out⟩
        case measure => simp [intOf]; omega
      · obtain rfl : j = M := by omega
        have hd : ¬ j < 1000 := by omega
        have HB := Lib.hid hb
        clear hb hmn
        go_wp2
        go_ret
        exact ⟨rfl, HB.out⟩

theorem mod256 (k : Int) : (wrap64 (k.tmod 256 + 256)).tmod 256 = k % 256 := by
  have h := tag_byte k
  have h1 := Int.tmod_lt_of_pos k (show (0 : Int) < 256 by omega)
  have h2 := Int.lt_tmod_of_pos k (show (0 : Int) < 256 by omega)
  have e : wrap64 (k.tmod 256 + 256) = k.tmod 256 + 256 := IntWalk.wrap64_in _ (by omega)
  rw [e] at h ⊢
  have h3 : 0 ≤ (k.tmod 256 + 256).tmod 256 := by rw [Int.tmod_eq_emod_of_nonneg (by omega)]; omega
  have h4 := Int.tmod_lt_of_pos (k.tmod 256 + 256) (show (0 : Int) < 256 by omega)
  omega

set_option maxHeartbeats 400000 in
theorem refstep_any (w : World) (k : Int) (x : ByteArray) (hx : x.size ≤ 1000000) :
    Calls Tryz.prog 78 #[.int .i64 k, .string x] w fun e w' => e = .returned (.string (stepB k x)) ∧ Below w.heap.size w w' := by
  have hk := numOk_yes (k := 1) (n := k % 256) (by omega) (by simp; omega)
  have hB := numB_yes hk
  have hby := number1_any (k % 256)
  rw [hB, hk] at hby
  have HBY := Lib.hid hby
  have hq := be_size 1 (k % 256).toNat
  have hstep : stepB k x = shaB ⟨(inputL 1 [be 1 (k % 256).toNat, x]).toArray⟩ := rfl
  generalize be 1 (k % 256).toNat = B at *
  have HSTEP := Lib.hid hstep
  have htot : totL [B, x] ≤ 9000000 := by simp [totL]; omega
  have HTG := Lib.hid (fun W a c h => reftag_any W 1 a c [B, x] h htot (by simp))
  have HM := Lib.hid (mod256 k)
  clear hby hB hk hstep hq htot
  go_enter Tryz.func78, Tryz.ntmps78
  go_wp2_with fail
  rw [HM.out]
  refine (HBY.out _).mono ?_
  rintro e w1 ⟨rfl, b1⟩
  have HB := Lib.hid b1
  clear b1
  go_wp2_with fail
  have c3 := HB.out.alloc HB.out.size (.cells #[.string B, .string x] 9)
  refine (HTG.out _ _ _ (strs2 _ _ _)).mono ?_
  rintro e w4 ⟨rfl, b4⟩
  have C4 := Lib.hid (c3.trans (b4.mono c3.size))
  clear b4 c3
  rw [← HSTEP.out]
  go_wp2
  go_ret
  exact ⟨rfl, C4.out⟩

set_option maxHeartbeats 1000000 in
set_option maxRecDepth 100000 in
theorem refchain_any (w : World) (k n : Int) (x : ByteArray) (hx : x.size ≤ 1000000) :
    Calls Tryz.prog 63 #[.int .i64 k, .string x, .int .i64 n] w fun e w' => e = .returned (.string (chainB k x (stepsN n))) ∧ Below w.heap.size w w' := by
  have HZ := Lib.hid (chainB_size k x hx)
  have hstep : ∀ j, chainB k x (j + 1) = stepB k (chainB k x j) := fun j => rfl
  have HSTEP := Lib.hid hstep
  have h0 : chainB k x 0 = x := rfl
  obtain ⟨C, hC⟩ : ∃ C, C = chainB k x := ⟨_, rfl⟩
  rw [← hC] at HZ HSTEP h0 ⊢
  have H0 := Lib.hid h0
  have hM : ∃ M, M = stepsN n := ⟨_, rfl⟩
  obtain ⟨M, hM⟩ := hM
  have hle : (n ≤ 1000 ∧ M = n.toNat) ∨ (1000 < n ∧ M = 1000) := by
    by_cases hn : n ≤ 1000
    · left; exact ⟨hn, by rw [hM, stepsN, if_pos hn]⟩
    · right; exact ⟨by omega, by rw [hM, stepsN, if_neg hn]; rfl⟩
  rw [← hM]
  have HLE := Lib.hid hle
  clear hstep hx hM hle hC h0
  go_enter Tryz.func63, Tryz.ntmps63
  go_wp2
  go_loopw [1, 7] (fun v i wr => ∃ j : Nat, j ≤ M ∧ j ≤ 1000 ∧ i = .int .i64 j ∧ v = .string (C j) ∧ Below w.heap.size w wr) (fun _ i _ => M - (intOf i).toNat)
  case atStart => exact ⟨0, by omega, by omega, rfl, by rw [H0.out], Below.refl _ _⟩
  case round =>
    obtain ⟨j, hj, hj2, rfl, rfl, hb⟩ := hrel
    have hle := HLE.out
    by_cases hlt : j < M
    · have hd : decide ((j : Int) < n) = true := by simp; omega
      have hd2 : j < 1000 := by omega
      have hst := HSTEP.out j
      have hz := HZ.out j
      generalize C j = X at *
      generalize hX2 : C (j + 1) = X2 at *
      have HX2 := Lib.hid hX2
      have HST := Lib.hid hst
      have HB := Lib.hid hb
      have HRS := Lib.hid (refstep_any wr k X hz)
      clear hX2 hst hb hle
      go_wp2_with fail
      refine HRS.out.mono ?_
      rintro e w4 ⟨rfl, b4⟩
      have C4 := Lib.hid (HB.out.trans (b4.mono HB.out.size))
      clear b4
      rw [← HST.out]
      go_wp2
      go_roundw
      case rel => exact ⟨j + 1, by omega, by omega, by go_num, by rw [HX2.out], C4.out⟩
      case measure => simp [intOf]; omega
    · obtain rfl : j = M := by omega
      have HB := Lib.hid hb
      clear hb
      rcases hle with ⟨h1, h2⟩ | ⟨h1, h2⟩
      · have hd : decide ((j : Int) < n) = false := by simp; omega
        clear h2
        go_wp2
        go_ret
        exact ⟨rfl, HB.out⟩
      · have hd : decide ((j : Int) < n) = true := by simp; omega
        have hd2 : ¬ j < 1000 := by omega
        clear h2
        go_wp2
        go_ret
        exact ⟨rfl, HB.out⟩

set_option maxHeartbeats 400000 in
theorem secret_yes (w : World) (seed : ByteArray) (leaf k : Nat) (hl : leaf ≤ 65535) (hk : k < 67) (hs : seed.size ≤ 1000000) (ht : Tabs w) :
    Calls Tryz.prog 115 #[.string seed, .int .i64 leaf, .int .i64 k] w fun e w' => e = .returned (.tuple #[.string (secretB seed leaf k), .bool true]) ∧ Below w.heap.size w w' := by
  have h1 := numOk_yes (k := 2) (n := (leaf : Int)) (by omega) (by simp; omega)
  have hB1 := numB_yes h1
  have hsh := short_any (leaf : Int) (by omega)
  rw [hB1, h1] at hsh
  have h2 := numOk_yes (k := 1) (n := (k : Int)) (by omega) (by simp; omega)
  have hB2 := numB_yes h2
  have hby := byte_any (k : Int) (by omega)
  rw [hB2, h2] at hby
  have hq1 := be_size 2 (leaf : Int).toNat
  have hq2 := be_size 1 (k : Int).toNat
  have hsec : secretB seed leaf k = shaB ⟨(inputL 2 [seed, be 2 (leaf : Int).toNat, be 1 (k : Int).toNat]).toArray⟩ := rfl
  generalize be 2 (leaf : Int).toNat = L at *
  generalize be 1 (k : Int).toNat = B at *
  have htot : totL [seed, L, B] ≤ 2147483647 := by simp [totL]; omega
  have HTG := Lib.hid (fun W a c hT h => tag_any W 2 a c [seed, L, B] hT h htot (by simp))
  have HSH := Lib.hid hsh
  have HBY := Lib.hid hby
  have HSEC := Lib.hid hsec
  have HT := Lib.hid ht
  clear h1 hB1 hsh h2 hB2 hby hsec htot ht hq1 hq2
  go_enter Tryz.func115, Tryz.ntmps115
  go_wp2_with fail
  refine (HSH.out _).mono ?_
  rintro e w1 ⟨rfl, b1⟩
  go_wp2_with fail
  refine (HBY.out _).mono ?_
  rintro e w2 ⟨rfl, b2⟩
  have C2 := Lib.hid (b1.trans (b2.mono b1.size))
  clear b1 b2
  go_wp2_with fail
  have c3 := C2.out.alloc C2.out.size (.cells #[.string seed, .string L, .string B] 9)
  refine (HTG.out _ _ _ (HT.out.below c3) (strs3 _ _ _ _ _)).mono ?_
  rintro e w4 ⟨rfl, b4⟩
  have C4 := Lib.hid (c3.trans (b4.mono c3.size))
  clear b4 c3
  rw [← HSEC.out]
  go_wp2
  go_ret2
  exact ⟨rfl, C4.out⟩

set_option maxHeartbeats 400000 in
theorem secret_no (w : World) (seed : ByteArray) (leaf k : Int) (h : leaf < 0 ∨ 65535 < leaf ∨ k < 0 ∨ 67 ≤ k) (ml : leaf ≤ 9223372036854775807) (mk : k ≤ 9223372036854775807) :
    Calls Tryz.prog 115 #[.string seed, .int .i64 leaf, .int .i64 k] w fun e w' => e = .returned (.tuple #[.string ⟨#[]⟩, .bool false]) ∧ Below w.heap.size w w' := by
  have HSH := Lib.hid (short_any leaf ml)
  have HBY := Lib.hid (byte_any k mk)
  have hok : numOk 2 leaf = true ∨ numOk 2 leaf = false := by cases numOk 2 leaf <;> simp
  have hleaf : numOk 2 leaf = true → ¬ (leaf < 0 ∨ 65535 < leaf) := by
    intro e
    simp only [numOk, decide_eq_true_eq] at e
    have : (256 : Int) ^ 2 = 65536 := by decide
    omega
  rcases hok with e1 | e1
  · have h2 := hleaf e1
    rw [e1] at HSH
    generalize numB 2 leaf = L at *
    generalize numB 1 k = B at *
    generalize numOk 1 k = bb at *
    clear hleaf e1 ml mk
    have hkk : k < 0 ∨ (0 ≤ k ∧ 67 ≤ k) := by omega
    clear h h2
    rcases hkk with hk | ⟨hk, hk2⟩
    · have hd : decide (k < 0) = true := by simpa using hk
      go_enter Tryz.func115, Tryz.ntmps115
      go_wp2_with fail
      refine (HSH.out _).mono ?_
      rintro e w1 ⟨rfl, b1⟩
      go_wp2_with fail
      refine (HBY.out _).mono ?_
      rintro e w2 ⟨rfl, b2⟩
      have C2 := Lib.hid (b1.trans (b2.mono b1.size))
      clear b1 b2
      go_wp2
      go_ret2
      exact ⟨rfl, C2.out⟩
    · have hd : decide (k < 0) = false := by simp; omega
      have hd2 : decide (67 ≤ k) = true := by simpa using hk2
      go_enter Tryz.func115, Tryz.ntmps115
      go_wp2_with fail
      refine (HSH.out _).mono ?_
      rintro e w1 ⟨rfl, b1⟩
      go_wp2_with fail
      refine (HBY.out _).mono ?_
      rintro e w2 ⟨rfl, b2⟩
      have C2 := Lib.hid (b1.trans (b2.mono b1.size))
      clear b1 b2
      go_wp2
      go_ret2
      exact ⟨rfl, C2.out⟩
  · rw [e1] at HSH
    generalize numB 2 leaf = L at *
    generalize numB 1 k = B at *
    generalize numOk 1 k = bb at *
    clear hleaf e1 ml mk h
    go_enter Tryz.func115, Tryz.ntmps115
    go_wp2_with fail
    refine (HSH.out _).mono ?_
    rintro e w1 ⟨rfl, b1⟩
    go_wp2_with fail
    refine (HBY.out _).mono ?_
    rintro e w2 ⟨rfl, b2⟩
    have C2 := Lib.hid (b1.trans (b2.mono b1.size))
    clear b1 b2
    go_wp2
    go_ret2
    exact ⟨rfl, C2.out⟩

set_option maxHeartbeats 400000 in
theorem refsecret (w : World) (seed : ByteArray) (leaf k : Nat) (hl : leaf ≤ 65535) (hk : k < 67) (hs : seed.size ≤ 1000000) :
    Calls Tryz.prog 64 #[.string seed, .int .i64 leaf, .int .i64 k] w fun e w' => e = .returned (.string (secretB seed leaf k)) ∧ Below w.heap.size w w' := by
  have h1 := numOk_yes (k := 2) (n := (leaf : Int)) (by omega) (by simp; omega)
  have hB1 := numB_yes h1
  have hsh := number2_any (leaf : Int)
  rw [hB1, h1] at hsh
  have h2 := numOk_yes (k := 1) (n := (k : Int)) (by omega) (by simp; omega)
  have hB2 := numB_yes h2
  have hby := number1_any (k : Int)
  rw [hB2, h2] at hby
  have hq1 := be_size 2 (leaf : Int).toNat
  have hq2 := be_size 1 (k : Int).toNat
  have hsec : secretB seed leaf k = shaB ⟨(inputL 2 [seed, be 2 (leaf : Int).toNat, be 1 (k : Int).toNat]).toArray⟩ := rfl
  generalize be 2 (leaf : Int).toNat = L at *
  generalize be 1 (k : Int).toNat = B at *
  have htot : totL [seed, L, B] ≤ 9000000 := by simp [totL]; omega
  have HTG := Lib.hid (fun W a c h => reftag_any W 2 a c [seed, L, B] h htot (by simp))
  have HSH := Lib.hid hsh
  have HBY := Lib.hid hby
  have HSEC := Lib.hid hsec
  clear h1 hB1 hsh h2 hB2 hby hsec htot hq1 hq2
  go_enter Tryz.func64, Tryz.ntmps64
  go_wp2_with fail
  refine (HSH.out _).mono ?_
  rintro e w1 ⟨rfl, b1⟩
  go_wp2_with fail
  refine (HBY.out _).mono ?_
  rintro e w2 ⟨rfl, b2⟩
  have C2 := Lib.hid (b1.trans (b2.mono b1.size))
  clear b1 b2
  go_wp2_with fail
  have c3 := C2.out.alloc C2.out.size (.cells #[.string seed, .string L, .string B] 9)
  refine (HTG.out _ _ _ (strs3 _ _ _ _ _)).mono ?_
  rintro e w4 ⟨rfl, b4⟩
  have C4 := Lib.hid (c3.trans (b4.mono c3.size))
  clear b4 c3
  rw [← HSEC.out]
  go_wp2
  go_ret
  exact ⟨rfl, C4.out⟩

end Go.Proofs.YtggfmnmopfdiaaaGreatDoor
namespace Go.Pal
open Go.RowKit
def zeros32 : List UInt8 := List.replicate 32 0
theorem dig_zeros : digL zeros32 = List.replicate 64 0 ++ [3, 12, 0] := by decide +kernel
theorem made32 : madeCells #[Value.int .u8 0] 32 = (zeros32.map byteV).toArray := by kernel_rfl
/-- Any text as a digest's 32 bytes. -/
def fitL (l : List UInt8) : List UInt8 := l.take 32 ++ List.replicate (32 - l.length) 0
theorem fitL_length (l : List UInt8) : (fitL l).length = 32 := by simp [fitL]; omega
def fitB (s : ByteArray) : ByteArray := ⟨(fitL s.data.toList).toArray⟩
theorem fitB_size (s : ByteArray) : (fitB s).size = 32 := by
  show (fitL s.data.toList).toArray.size = 32
  rw [List.size_toArray, fitL_length]
theorem fitL_get (l : List UInt8) (k : Nat) (h : k < l.length) (h2 : k < 32) : (fitL l)[k]? = l[k]? := by
  unfold fitL
  rw [List.getElem?_append_left (by simp; omega), List.getElem?_take, if_pos h2]
theorem fitL_part (l : List UInt8) (k : Nat) (h : k = l.length ∨ k = 32) (hk : k ≤ 32) : partL ((fitL l).map byteV) (zeros32.map byteV) k = (fitL l).map byteV := by
  have hz : zeros32.map byteV = List.replicate 32 (.int .u8 0) := rfl
  rcases h with rfl | rfl
  · unfold partL fitL
    rw [hz, List.take_of_length_le hk, List.map_append, List.take_append_of_le_length (by simp), List.take_of_length_le (by simp), List.drop_replicate, List.map_replicate]
    rfl
  · unfold partL
    rw [hz, List.take_of_length_le (by simp [fitL_length]), List.drop_of_length_le (by simp), List.append_nil]
end Go.Pal
namespace Go.Proofs.YtggfmnmopfdiaaaGreatDoor
open Go.RowKit Go.Pal

theorem conv_blk (w : World) (B cap : Nat) (t : TypeId) (l : List UInt8) (hB : Blk w B t (l.map byteV)) :
    (convert 79 9 (.slice (some ⟨B, 0, none⟩) l.length cap)).run Tryz.prog w = .ok (.string ⟨l.toArray⟩) w := by
  have := run_convert_bytes_arg (P := Tryz.prog) w 79 5 Tryz.underlying79 Tryz.underlying5 B 0 l.length cap (l.map fun b => (b.toNat : Int)) (by simp) (fun i hi => by
    rw [Nat.zero_add, hB.cell i]
    simp [hi, byteV]) 9 Tryz.underlying9
  rw [this, nums_bytes]

theorem make32 (w : World) : (Instr.makeSlice 79 (.int .i64 32) (.int .i64 32)).run Tryz.prog w = .ok (.slice (some ⟨w.heap.size, 0, none⟩) 32 32) (w.alloc (.cells (zeros32.map byteV).toArray 5)) := by
  have h := run_make_row' (P := Tryz.prog) 79 5 (.int .u8 0) 1 Tryz.underlying79 (by kernel_rfl) rfl .i64 .i64 32 (by omega) (by omega) w
  rw [made32] at h
  exact h
theorem conv32 (w : World) : (convert 79 9 (.slice (some ⟨w.heap.size, 0, none⟩) 32 32)).run Tryz.prog (w.alloc (.cells (zeros32.map byteV).toArray 5)) = .ok (.string ⟨zeros32.toArray⟩) (w.alloc (.cells (zeros32.map byteV).toArray 5)) :=
  conv_blk _ _ 32 _ zeros32 (Blk.new w 5 (zeros32.map byteV))





end Go.Proofs.YtggfmnmopfdiaaaGreatDoor
namespace Go.Pal
open Go.RowKit

/-- Two roots of as many leaves. -/
def pairB (x y : ByteArray) : ByteArray := shaB ⟨(inputL 4 [x, y]).toArray⟩
theorem pairB_size (x y : ByteArray) : (pairB x y).size = 32 := shaB_size' _
/-- Where a path leads, step by step. -/
def foldAt (leaf : ByteArray) (i : Nat) (path : List ByteArray) : Nat → ByteArray
  | 0 => leaf
  | k + 1 => if i / 2 ^ k % 2 = 1 then pairB (path.getD k ByteArray.empty) (foldAt leaf i path k) else pairB (foldAt leaf i path k) (path.getD k ByteArray.empty)
theorem foldAt_size (leaf : ByteArray) (i : Nat) (path : List ByteArray) (h : leaf.size ≤ 1000000) : ∀ k, (foldAt leaf i path k).size ≤ 1000000
  | 0 => h
  | k + 1 => by
    unfold foldAt
    split
    · rw [pairB_size]; omega
    · rw [pairB_size]; omega
theorem half_step (i k : Nat) : i / 2 ^ (k + 1) = i / 2 ^ k / 2 := by rw [Nat.pow_succ, Nat.div_div_eq_div_mul]
/-- The row above a row. -/
def rowUp (l : List ByteArray) : List ByteArray := (List.range (l.length / 2)).map fun i => pairB (l.getD (2 * i) ByteArray.empty) (l.getD (2 * i + 1) ByteArray.empty)
theorem rowUp_length (l : List ByteArray) : (rowUp l).length = l.length / 2 := by simp [rowUp]
theorem rowUp_get (l : List ByteArray) (i : Nat) (h : i < l.length / 2) : (rowUp l).getD i ByteArray.empty = pairB (l.getD (2 * i) ByteArray.empty) (l.getD (2 * i + 1) ByteArray.empty) := by
  rw [List.getD_eq_getElem?_getD]
  simp [rowUp, List.getElem?_range h]
def rowN : Nat → List ByteArray → List ByteArray
  | 0, l => l
  | k + 1, l => rowUp (rowN k l)
theorem rowN_length (l : List ByteArray) : ∀ k, (rowN k l).length = l.length / 2 ^ k
  | 0 => by simp [rowN]
  | k + 1 => by rw [rowN, rowUp_length, rowN_length l k, half_step]
def SmallL (l : List ByteArray) : Prop := ∀ i, (l.getD i ByteArray.empty).size ≤ 1000000
theorem smallL_up (l : List ByteArray) : SmallL (rowUp l) := by
  intro i
  by_cases h : i < l.length / 2
  · rw [rowUp_get l i h, pairB_size]; omega
  · rw [List.getD_eq_getElem?_getD, List.getElem?_eq_none (by rw [rowUp_length]; omega)]
    show ByteArray.empty.size ≤ _; decide
theorem smallL_n (l : List ByteArray) (h : SmallL l) : ∀ k, SmallL (rowN k l)
  | 0 => h
  | _ + 1 => smallL_up _
theorem strs2t (w : World) (t : TypeId) (x y : ByteArray) : StrRow (w.alloc (.cells #[.string x, .string y] t)) (some ⟨w.heap.size, 0, none⟩) [x, y] := by
  refine .inr ⟨w.heap.size, 0, rfl, by simp, fun i hi => ?_⟩
  rw [World.cell?_alloc_mark]
  match i, hi with
  | 0, _ => rfl
  | 1, _ => rfl
/-- Texts as cells. -/
def strV (s : ByteArray) : Value := .string s
theorem strRow_blk {w : World} {B : Nat} {t : TypeId} {l : List ByteArray} (h : Blk w B t (l.map strV)) : StrRow w (some ⟨B, 0, none⟩) l := by
  refine .inr ⟨B, 0, rfl, h.lt, fun i hi => ?_⟩
  rw [Nat.zero_add, h.cell i]
  simp [hi, strV]
theorem strs_get? (l : List ByteArray) (k : Nat) (h : k < l.length) : (l.map strV)[k]? = some (.string (l.getD k ByteArray.empty)) := by
  simp [h, strV]
theorem madeS (n : Nat) : madeCells #[Value.string ⟨#[]⟩] n = (List.replicate n (Value.string ⟨#[]⟩)).toArray := by
  apply Array.ext'
  unfold madeCells
  simp
  rw [List.eq_replicate_iff]
  refine ⟨by simp, fun v hv => ?_⟩
  obtain ⟨i, _, rfl⟩ := List.mem_map.1 hv
  simp [Nat.mod_one]
theorem rowN_pow (l : List ByteArray) (H k : Nat) (hl : l.length = 2 ^ H) (hk : k ≤ H) : (rowN k l).length = 2 ^ (H - k) := by
  rw [rowN_length, hl, Nat.pow_div hk (by omega)]
theorem pow_le16 (n : Nat) (h : n ≤ 4) : 2 ^ n ≤ 16 := Nat.pow_le_pow_right (by omega) h
theorem pow_ge2 (n : Nat) (h : 0 < n) : 2 ≤ 2 ^ n := by
  obtain ⟨m, rfl⟩ : ∃ m, n = m + 1 := ⟨n - 1, by omega⟩
  have := Nat.two_pow_pos m
  rw [Nat.pow_succ]; omega
/-- May there be so many leaves? -/
def mayB (n : Nat) : Bool := n == 1 || n == 2 || n == 4 || n == 8 || n == 16
theorem may_pow (n : Nat) (h : mayB n = true) : ∃ H, H ≤ 4 ∧ n = 2 ^ H := by
  simp only [mayB, Bool.or_eq_true, beq_iff_eq] at h
  rcases h with (((h | h) | h) | h) | h
  · exact ⟨0, by omega, h⟩
  · exact ⟨1, by omega, h⟩
  · exact ⟨2, by omega, h⟩
  · exact ⟨3, by omega, h⟩
  · exact ⟨4, by omega, h⟩
theorem pow_may (H : Nat) (h : H ≤ 4) : mayB (2 ^ H) = true := by
  have : H = 0 ∨ H = 1 ∨ H = 2 ∨ H = 3 ∨ H = 4 := by omega
  rcases this with rfl | rfl | rfl | rfl | rfl <;> rfl
theorem and_may : ∀ n : Nat, n < 17 → (bits BinOp.and IntKind.i64 (n : Int) ((n : Int) - 1) == 0) = (mayB n || n == 0) := by decide +kernel
/-- What stands beside. -/
def beside (i : Nat) : Nat := if i % 2 = 0 then i + 1 else i - 1
theorem xor_beside : ∀ i : Nat, i < 16 → bits BinOp.xor IntKind.i64 (i : Int) 1 = (beside i : Int) := by decide +kernel
theorem beside_lt (i n : Nat) (h : i < 2 * n) : beside i < 2 * n := by unfold beside; split <;> omega
def pathTo (l : List ByteArray) (i k : Nat) : List ByteArray := (List.range k).map fun j => (rowN j l).getD (beside (i / 2 ^ j)) ByteArray.empty
theorem pathTo_succ (l : List ByteArray) (i k : Nat) : pathTo l i (k + 1) = pathTo l i k ++ [(rowN k l).getD (beside (i / 2 ^ k)) ByteArray.empty] := by simp [pathTo, List.range_succ]
theorem pathTo_length (l : List ByteArray) (i k : Nat) : (pathTo l i k).length = k := by simp [pathTo]
theorem pathTo_get (l : List ByteArray) (i H k : Nat) (h : k < H) : (pathTo l i H).getD k ByteArray.empty = (rowN k l).getD (beside (i / 2 ^ k)) ByteArray.empty := by
  rw [List.getD_eq_getElem?_getD, pathTo, List.getElem?_map, List.getElem?_range h]
  rfl
theorem div_lt_pow (i H k : Nat) (h : i < 2 ^ H) (hk : k ≤ H) : i / 2 ^ k < 2 ^ (H - k) := by
  rw [Nat.div_lt_iff_lt_mul (Nat.two_pow_pos k), ← Nat.pow_add, Nat.sub_add_cancel hk]
  exact h
/-- A leaf's path leads from it along its rows. -/
theorem fold_path (l : List ByteArray) (i H : Nat) (hl : l.length = 2 ^ H) (hi : i < 2 ^ H) : ∀ k, k ≤ H → foldAt (l.getD i ByteArray.empty) i (pathTo l i H) k = (rowN k l).getD (i / 2 ^ k) ByteArray.empty
  | 0, _ => by simp [foldAt, rowN]
  | k + 1, hk => by
    have hlt := div_lt_pow i H k hi (by omega)
    have hlen := rowN_pow l H k hl (by omega)
    have hp : 2 ^ (H - k) = 2 * 2 ^ (H - (k + 1)) := by rw [show H - k = (H - (k + 1)) + 1 by omega, Nat.pow_succ]; omega
    rw [foldAt, fold_path l i H hl hi k (by omega), pathTo_get l i H k (by omega), rowN, half_step, rowUp_get _ _ (by rw [hlen]; omega)]
    generalize i / 2 ^ k = q at *
    by_cases h : q % 2 = 1
    · rw [if_pos h, beside, if_neg (by omega), show 2 * (q / 2) = q - 1 by omega, show q - 1 + 1 = q by omega]
    · rw [if_neg h, beside, if_pos (by omega), show 2 * (q / 2) = q by omega]
end Go.Pal
namespace Go.Proofs.YtggfmnmopfdiaaaGreatDoor
open Go.RowKit Go.Pal

set_option maxHeartbeats 400000 in
theorem pair_any (w : World) (x y : ByteArray) (hx : x.size ≤ 1000000) (hy : y.size ≤ 1000000) (ht : Tabs w) :
    Calls Tryz.prog 104 #[.agg #[.string x, .string y]] w fun e w' => e = .returned (.string (pairB x y)) ∧ Below w.heap.size w w' := by
  have htot : totL [x, y] ≤ 2147483647 := by simp [totL]; omega
  have HTG := Lib.hid (fun W a c hT h => tag_any W 4 a c [x, y] hT h htot (by simp))
  have hp : pairB x y = shaB ⟨(inputL 4 [x, y]).toArray⟩ := rfl
  have HP := Lib.hid hp
  have HT := Lib.hid ht
  clear htot hp ht hx hy
  go_enter Tryz.func104, Tryz.ntmps104
  go_wp2_with fail
  have c3 := (Below.refl w.heap.size w).alloc (Nat.le_refl _) (.cells #[.string x, .string y] 143)
  refine (HTG.out _ _ _ (HT.out.below c3) (strs2t _ _ _ _)).mono ?_
  rintro e w4 ⟨rfl, b4⟩
  have C4 := Lib.hid (c3.trans (b4.mono c3.size))
  clear b4 c3
  rw [← HP.out]
  go_wp2
  go_ret
  exact ⟨rfl, C4.out⟩

theorem makeS (n : Nat) (hn : n ≤ 1000000) (w : World) : (Instr.makeSlice 22 (.int .i64 (n : Int)) (.int .i64 (n : Int))).run Tryz.prog w = .ok (.slice (some ⟨w.heap.size, 0, none⟩) n n) (w.alloc (.cells (List.replicate n (Value.string ⟨#[]⟩)).toArray 9)) := by
  have h := run_make_row' (P := Tryz.prog) 22 9 (.string ⟨#[]⟩) 16 Tryz.underlying22 (by kernel_rfl) rfl .i64 .i64 n (by omega) (by omega) w
  rw [madeS] at h
  exact h

set_option maxHeartbeats 1000000 in
set_option maxRecDepth 100000 in
theorem above_any (w : World) (a : Option Addr) (cap : Nat) (ss : List ByteArray) (hss : StrRow w a ss) (hlen : ss.length ≤ 16) (hsm : SmallL ss) (ht : Tabs w) :
    Calls Tryz.prog 92 #[.slice a ss.length cap] w fun e w' => e = .returned (.slice (some ⟨w.heap.size, 0, none⟩) (rowUp ss).length (rowUp ss).length) ∧ StrRow w' (some ⟨w.heap.size, 0, none⟩) (rowUp ss) ∧ w.heap.size < w'.heap.size ∧ Below w.heap.size w w' := by
  have hm := makeS (ss.length / 2) (by omega) w
  have hq : (ss.length : Int) / 2 = ((ss.length / 2 : Nat) : Int) := by omega
  have hlu := rowUp_length ss
  have hget := rowUp_get ss
  have HG := Lib.hid hget
  have HLU := Lib.hid hlu
  have HSS := Lib.hid hss
  have HSM := Lib.hid hsm
  have HT := Lib.hid ht
  rw [hlu]
  obtain ⟨n, hn⟩ : ∃ n, n = ss.length / 2 := ⟨_, rfl⟩
  rw [← hn] at hm hq HG HLU ⊢
  generalize rowUp ss = U at *
  have hnl : 2 * n ≤ ss.length := by omega
  have hn8 : n ≤ 8 := by omega
  clear hget hlu hss hsm ht hn
  go_enter Tryz.func92, Tryz.ntmps92
  go_wp2
  go_loopw [11] (fun i wr => ∃ k : Nat, k ≤ n ∧ i = .int .i64 k ∧ Blk wr w.heap.size 9 (partL (U.map strV) (List.replicate n (Value.string ⟨#[]⟩)) k) ∧ Below w.heap.size w wr) (fun i _ => n - (intOf i).toNat)
  case atStart => exact ⟨0, by omega, rfl, by rw [partL_zero]; exact Blk.new' _ _ _ rfl, (Below.refl _ _).alloc (Nat.le_refl _) _⟩
  case round =>
    clear hm hq
    obtain ⟨k, hk, rfl, hB, hb⟩ := hrel
    have hUl : (U.map strV).length = n := by rw [List.length_map, HLU.out]
    by_cases hlt : k < n
    · rcases HSS.out with h0 | ⟨b, off, rfl, hbl, hc⟩
      · rw [h0] at hnl; simp at hnl; omega
      have c0 := (hb.cell (p := ⟨b, off + 2 * k, none⟩) hbl).trans (hc (2 * k) (by omega))
      have c1 := (hb.cell (p := ⟨b, off + (2 * k + 1), none⟩) hbl).trans (hc (2 * k + 1) (by omega))
      have s0 := HSM.out (2 * k)
      have s1 := HSM.out (2 * k + 1)
      have hgk := HG.out k hlt
      generalize ss.getD (2 * k) ByteArray.empty = x at *
      generalize ss.getD (2 * k + 1) ByteArray.empty = y at *
      have d0 := (hB.cell k).trans ((partL_get _ _ k (by omega)).trans (by rw [List.getElem?_replicate, if_pos hlt]))
      have f0 := hB.frozen k
      have hlt2 := hB.lt
      have hset : ∀ w' : World, Below wr.heap.size wr w' → Blk (w'.setCell ⟨w.heap.size, k, none⟩ (.string (pairB x y))) w.heap.size 9 (partL (U.map strV) (List.replicate n (Value.string ⟨#[]⟩)) (k + 1)) := by
        intro w' hb'
        have h2 := (hB.below hb' hlt2).set k ((U.map strV)[k]'(by omega))
        rw [partL_set _ _ k (by omega) (by simp; omega), (List.getElem_eq_iff _).2 (strs_get? U k (by rw [HLU.out]; exact hlt)), hgk] at h2
        exact h2
      have hbset : ∀ w' : World, Below wr.heap.size wr w' → Below w.heap.size w (w'.setCell ⟨w.heap.size, k, none⟩ (.string (pairB x y))) := fun w' hb' => (hb.trans (hb'.mono hb.size)).setCell (p := ⟨w.heap.size, k, none⟩) (Nat.le_refl _) _
      have HPA := Lib.hid (fun W (hT : Tabs W) => pair_any W x y s0 s1 hT)
      have HTr := Lib.hid (fun (W : World) (h : Below wr.heap.size wr W) => HT.out.below (hb.trans (h.mono hb.size)))
      have HSET := Lib.hid hset
      have HBS := Lib.hid hbset
      have hk0 : (0 : Int) ≤ (k : Int) := by omega
      have hk1 : (k : Int) < (n : Int) := by omega
      have i0 : (0 : Int) ≤ 2 * (k : Int) := by omega
      have i1 : 2 * (k : Int) < (ss.length : Int) := by omega
      have i2 : (0 : Int) ≤ 2 * (k : Int) + 1 := by omega
      have i3 : 2 * (k : Int) + 1 < (ss.length : Int) := by omega
      have i4 : IntKind.i64.wrap (2 * (k : Int)) = 2 * (k : Int) := by rw [IntKind.wrap_i64]; omega
      have i5 : IntKind.i64.wrap (2 * (k : Int) + 1) = 2 * (k : Int) + 1 := by rw [IntKind.wrap_i64]; omega
      have i6 : (2 * (k : Int)).toNat = 2 * k := by omega
      have i7 : (2 * (k : Int) + 1).toNat = 2 * k + 1 := by omega
      have hblr : b < wr.heap.size := Nat.lt_of_lt_of_le hbl hb.size
      generalize pairB x y = z at *
      clear hset hbset hgk hB hb hc HG HSS HSM hUl s0 s1
      go_wp2
      go_region_with (go_at_call 104; refine (HPA.out _ (HTr.out _ ((Below.refl _ _).drew))).mono ?_; rintro e w1 ⟨rfl, b1⟩; have d1 := (b1.cell (p := ⟨w.heap.size, k, none⟩) hlt2).trans d0; have f1 := (b1.frozen (p := ⟨w.heap.size, k, none⟩) hlt2).trans f0)
      all_goals
        go_wp2
        go_roundw
        case rel => exact ⟨k + 1, by omega, by go_num, HSET.out _ (((Below.refl wr.heap.size wr).drew).trans b1), HBS.out _ (((Below.refl wr.heap.size wr).drew).trans b1)⟩
        case measure => simp [intOf]; omega
    · obtain rfl : k = n := by omega
      have hall := partL_all (U.map strV) (List.replicate k (Value.string ⟨#[]⟩)) (by rw [hUl]; simp)
      rw [hUl] at hall
      rw [hall] at hB
      have HSR := Lib.hid (strRow_blk hB)
      have HB := Lib.hid hb
      have HLT := Lib.hid hB.lt
      clear hB hb hall
      go_wp2
      go_ret
      exact ⟨rfl, HSR.out, HLT.out, HB.out⟩
end Go.Proofs.YtggfmnmopfdiaaaGreatDoor
