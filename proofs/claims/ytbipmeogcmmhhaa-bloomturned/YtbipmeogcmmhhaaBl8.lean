/-
  Of layer 14's laws: awake, great; what was put in is there.
-/
import Derived.Test.YtbipmeogcmmhhaaBl6
import Derived.Test.YtbipmeogcmmhhaaBl7
namespace Go.Pal
open Go.RowKit
theorem makeB_size (ids : List ByteArray) : 8 * (makeB ids).size = sizeB (cntB ids) := by
  have := (sizeB_le (cntB ids)).2.2
  unfold makeB; rw [bitsB_size]; exact this
theorem bitsB_get (f : Nat → Bool) (n j : Nat) (h : j < n) : ((bitsB f n).data.toList.getD j 0).toNat = byte8 f j := by
  have h1 : (bitsB f n).data.toList[j]? = some (UInt8.ofNat (byte8 f j)) := by
    simp [bitsB, bitsL, h]
  rw [List.getD_eq_getElem?_getD, h1, Option.getD_some, UInt8.toNat_ofNat_of_lt' (byte8_lt f j)]
theorem keeps (ids : List ByteArray) (id : ByteArray) (h : id ∈ ids) (hs : id.size = 32) : hasB (makeB ids) id = true := by
  have hm := makeB_size ids
  have hz := sizeB_le (cntB ids)
  have hp : placedB id (sizeB (cntB ids) : Nat) = true := decide_eq_true ⟨hs, by omega, by omega⟩
  refine hasB_good hm.symm hp (fun c hc => ?_)
  have hlt := placeB_lt id (sizeB (cntB ids)) c (by omega)
  unfold testB
  rw [show makeB ids = bitsB (setB ids (sizeB (cntB ids))) (sizeB (cntB ids) / 8) from rfl, bitsB_get _ _ _ (by omega), byte8_bit]
  refine List.any_eq_true.2 ⟨id, h, ?_⟩
  rw [placesB_yes hp]
  match c, hc with
  | 0, _ => simp
  | 1, _ => simp
  | 2, _ => simp
  | 3, _ => simp
def idB (k : Nat) : ByteArray := ⟨(List.replicate k 105).toArray⟩
theorem idB_size (k : Nat) : (idB k).size = k := by simp [idB, ByteArray.size]
theorem idB_next (k : Nat) : idB k ++ ⟨#[105]⟩ = idB (k + 1) := by
  rw [ByteArray.ext_iff]
  apply Array.ext'
  simp only [idB, ByteArray.data_append, List.replicate_succ']
  simp
theorem makeB_nil : makeB [] = ⟨#[0, 0, 0, 0, 0, 0, 0, 0]⟩ := by decide +kernel
def greatB14 (l : List ByteArray) : Bool := decide (1000 < l.length) || l.any fun s => decide (300 < s.size)
theorem greatB14_no {l : List ByteArray} (h : greatB14 l = false) : l.length ≤ 1000 ∧ ∀ s ∈ l, s.size ≤ 300 := by
  unfold greatB14 at h
  rw [Bool.or_eq_false_iff] at h
  refine ⟨by have := h.1; simp at this; omega, fun s hs => ?_⟩
  have := List.any_eq_false.1 h.2 s hs
  simp at this
  omega
theorem any_take_B (l : List ByteArray) (k : Nat) (h : k < l.length) : (l.take (k + 1)).any (fun s => decide (300 < s.size)) = ((l.take k).any (fun s => decide (300 < s.size)) || decide (300 < l[k].size)) := by
  rw [List.take_succ_eq_append_getElem h, List.any_append]; simp
end Go.Pal
namespace Go.Proofs.Ytbipmeogcmmhhaa
open Go.RowKit Go.Pal
set_option linter.unusedVariables false

set_option maxHeartbeats 1000000 in
set_option maxRecDepth 100000 in
theorem great14_any {w : World} {a : Option Addr} {cap : Nat} {l : List ByteArray} (h : StrRow w a l) (hlen : l.length ≤ maxLen) :
    Calls Try.prog 42 #[.slice a l.length cap] w fun e w' => e = .returned (.bool (greatB14 l)) ∧ w' = w := by
  unfold maxLen at hlen
  by_cases h60 : 1000 < l.length
  · have d1 : decide (1000 < (l.length : Int)) = true := decide_eq_true (by omega)
    have HB := Lib.hid (show greatB14 l = true by unfold greatB14; rw [decide_eq_true h60, Bool.true_or])
    clear h60 h
    go_enter Try.func42, Try.ntmps42
    go_wp2
    go_ret
    exact ⟨by rw [HB.out]; rfl, rfl⟩
  have d1 : decide (1000 < (l.length : Int)) = false := decide_eq_false (by omega)
  have HB := Lib.hid (show greatB14 l = l.any (fun s => decide (300 < s.size)) by unfold greatB14; rw [decide_eq_false h60, Bool.false_or])
  have HR := Lib.hid (fun h0 => bRow_some h h0)
  have HTK := Lib.hid (any_take_B l)
  have HAL := Lib.hid (show l.take l.length = l from List.take_length)
  have HANT := Lib.hid (show ∀ k (hk : k < l.length), decide (300 < l[k].size) = true → l.any (fun s => decide (300 < s.size)) = true from fun k hk hh => List.any_eq_true.2 ⟨l[k], List.getElem_mem hk, hh⟩)
  clear h h60
  go_enter Try.func42, Try.ntmps42
  go_wp2
  go_loop [3] (fun i => ∃ k : Nat, k ≤ l.length ∧ i = .int .i64 k ∧ (l.take k).any (fun s => decide (300 < s.size)) = false) (fun i => l.length - (intOf i).toNat)
  case atStart => exact ⟨0, Nat.zero_le _, rfl, rfl⟩
  case round =>
    obtain ⟨k, hk, rfl, hany⟩ := hrel
    have HANY := Lib.hid hany
    clear hany
    by_cases hlt : k < l.length
    · obtain ⟨b, off, rfl, _, hc⟩ := HR.out (by omega)
      have ck := hc k hlt
      have HT := Lib.hid (HTK.out k hlt)
      have HG := Lib.hid (HANT.out k hlt)
      clear hc
      generalize l[k] = x at *
      by_cases g1 : 300 < x.size
      · have d2 : decide (300 < (x.size : Int)) = true := decide_eq_true (by omega)
        have HX := Lib.hid (HG.out (decide_eq_true g1))
        clear g1
        go_wp2
        go_ret
        exact ⟨by rw [HB.out, HX.out]; rfl, rfl⟩
      · have d2 : decide (300 < (x.size : Int)) = false := decide_eq_false (by omega)
        have HX := Lib.hid (show (l.take (k + 1)).any (fun s => decide (300 < s.size)) = false by rw [HT.out, HANY.out, decide_eq_false g1]; rfl)
        clear g1
        go_wp2
        go_round
        case rel => exact ⟨k + 1, by omega, by go_num, HX.out⟩
        case measure => simp [intOf]; omega
    · obtain rfl : k = l.length := by omega
      have HX := Lib.hid (show l.any (fun s => decide (300 < s.size)) = false by have := HANY.out; rwa [HAL.out] at this)
      go_wp2
      go_ret
      exact ⟨by rw [HB.out, HX.out]; rfl, rfl⟩

theorem row_one (w : World) (s : ByteArray) : StrRow (w.alloc (.cells #[.string s] 9)) (some ⟨w.heap.size, 0, none⟩) [s] :=
  .inr ⟨w.heap.size, 0, rfl, by simp, fun i hi => by
    have hi' : i = 0 := by simpa using hi
    subst hi'
    rw [Nat.zero_add, (Blk.new w 9 [.string s]).cell]; rfl⟩

set_option maxHeartbeats 2000000 in
set_option maxRecDepth 100000 in
theorem awake14 (w : World) : Calls Try.prog 37 #[] w fun e w' => e = .returned (.bool true) ∧ Below w.heap.size w w' := by
  have s6 : sizeB 6 = 64 := rfl
  have s7 : sizeB 7 = 128 := rfl
  have HNIL := Lib.hid (show Calls Try.prog 43 #[.slice none 0 0] w fun e w' => e = .returned (.string ⟨#[0, 0, 0, 0, 0, 0, 0, 0]⟩) ∧ Below w.heap.size w w' from makeB_nil ▸ make_any (w := w) (a := none) (cap := 0) (ids := []) (.inl rfl) (by simp))
  go_enter Try.func37, Try.ntmps37
  go_wp2
  go_loop [1] (fun v => ∃ k : Nat, k ≤ 32 ∧ v = .string (idB k)) (fun v => match v with | .string s => 32 - s.size | _ => 0)
  case atStart => exact ⟨0, by omega, rfl⟩
  case round =>
    obtain ⟨k, hk, rfl⟩ := hrel
    have hs := idB_size k
    have hn := idB_next k
    by_cases hlt : k < 32
    · go_wp2
      go_round
      case rel => exact ⟨k + 1, by omega, by rw [← hn]⟩
      case measure => show 32 - (idB (k + 1)).size < 32 - (idB k).size; rw [idB_size, idB_size]; omega
    · obtain rfl : k = 32 := by omega
      have HID := Lib.hid (show ∀ W, Calls Try.prog 43 #[.slice (some ⟨(W : World).heap.size, 0, none⟩) 1 1] (W.alloc (.cells #[.string (idB 32)] 9)) fun e w' => e = .returned (.string (makeB [idB 32])) ∧ Below (W.alloc (.cells #[.string (idB 32)] 9)).heap.size (W.alloc (.cells #[.string (idB 32)] 9)) w' from fun W => make_any (ids := [idB 32]) (row_one W _) (by simp))
      have HH := Lib.hid (fun W => has_any (makeB [idB 32]) (idB 32) (by have := makeB_size [idB 32]; have := sizeB_le (cntB [idB 32]); omega) W)
      rw [keeps [idB 32] (idB 32) (List.mem_singleton.2 rfl) (idB_size 32)] at HH
      clear hn
      generalize makeB [idB 32] = B at *
      generalize idB 32 = I at *
      go_wp2_with (first
        | (go_at_call 40; refine (size_any _ _).mono ?_; rintro e w1 ⟨rfl, rfl⟩)
        | (go_at_call 43; have HBB := Lib.hid HB1.out; refine (HID.out _).mono ?_; rintro e w2 ⟨rfl, b2⟩; have HB2 := Lib.hid ((HB1.out.alloc HB1.out.size (.cells #[.string I] 9)).trans (b2.mono (by have := HB1.out.size; simp; omega))); clear b2)
        | (go_at_call 43; refine HNIL.out.mono ?_; rintro e w1 ⟨rfl, b1⟩; have HB1 := Lib.hid b1; clear b1)
        | (go_at_call 45; refine (HH.out _).mono ?_; rintro e w3 ⟨rfl, b3⟩; have HB3 := Lib.hid (HB2.out.trans (b3.mono HB2.out.size)); clear b3))
      go_ret
      exact ⟨rfl, HB3.out⟩
end Go.Proofs.Ytbipmeogcmmhhaa
