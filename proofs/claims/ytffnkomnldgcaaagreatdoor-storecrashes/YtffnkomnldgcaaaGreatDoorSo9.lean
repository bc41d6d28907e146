/-
  Contracts of package store: Open.
-/
import Derived.Test.YtffnkomnldgcaaaGreatDoorSo5
namespace Go.Proofs.YtffnkomnldgcaaaGreatDoor
open Go.RowKit Go.Pal Go.Pal.Dk Go.Pal.Fr Go.Pal.Cr

/-- What an opening keeps from record to record. -/
structure Op (w : World) (base B Lb D : Nat) (d d' : Dk) (L L' : Lay) (gs : List (List ByteArray)) (a : Option Addr) (cap : Nat) (l : List ByteArray) (k : Nat) (s : SS) (ev q : Value) (wr : World) : Prop where
  of : ofR ss0 (l.take k) = some s
  sz : SzS s k
  so : SoAt wr base B Lb D d' L' gs false s ev q
  row : QR wr 9 w.heap.size (.slice a l.length cap) l
  apart : ∀ g, (Value.slice a l.length cap).ownBlock = some g → ¬ RowB B ev q g
  off : Off (Foot D d.files L) w wr
  foot : ∀ g, SoF B Lb D d' L' ev q g → Foot D d.files L g ∨ w.heap.size ≤ g
theorem Op.next {w wr w2 : World} {base B Lb D : Nat} {d d' : Dk} {L L' : Lay} {gs : List (List ByteArray)} {a : Option Addr} {cap : Nat} {l : List ByteArray} {k : Nat} {s s' : SS} {ev q : Value} (h : Op w base B Lb D d d' L L' gs a cap l k s ev q wr) (hk : k < l.length) (hB : w.heap.size ≤ B) (hz : (l.getD k ByteArray.empty).size ≤ 1000000)
    (ht : takeR s (l.getD k ByteArray.empty) = some s') (hT : Taken wr base B (.pointer (some ⟨Lb, 0, none⟩)) ev q s' w2) : ∃ ev' q', Op w base B Lb D d d' L L' gs a cap l (k + 1) s' ev' q' w2 := by
  obtain ⟨ev', q', t1, t2, t3⟩ := hT
  have e : l[k] = l.getD k ByteArray.empty := by rw [List.getD_eq_getElem?_getD, List.getElem?_eq_getElem hk]; rfl
  have hke : ∀ g, g = Lb ∨ Foot D d'.files L' g → w2.heap[g]? = wr.heap[g]? := fun g hg => t2.block g (h.so.lt (.inr hg)) (fun e => by
    have := h.so.row_apart e
    rcases hg with hg | hg
    · exact this.1 hg
    · exact this.2 hg)
  refine ⟨ev', q', ⟨?_, h.sz.take hz ht, ⟨t1, h.so.lg.keep (hke Lb (.inl rfl)), h.so.dk.keep (fun g hg => hke g (.inr hg))⟩, h.row.keep (fun g hg => t2.block g (h.row.lt hg).1 (h.apart g hg)), fun g hg hr => ?_, ?_, fun g hg => ?_⟩⟩
  · rw [ofR_take l ss0 k hk, h.of, e]; exact ht
  · rcases hr with hr | hr
    · exact h.apart g hg (.inl hr)
    · rcases t3 g hr with h1 | h1
      · exact h.apart g hg (.inr h1)
      · have := (h.row.lt hg).1; omega
  · refine h.off.trans t2 (fun g hg hs => ?_)
    rcases h.foot g (.inl hs) with h1 | h1
    · exact h1
    · omega
  · rcases hg with (hg | hg) | hg
    · exact .inr (by omega)
    · rcases t3 g hg with h1 | h1
      · exact h.foot g (.inl (.inr h1))
      · exact .inr (Nat.le_trans h.off.size h1)
    · exact h.foot g (.inr hg)
/-- What an opening answers. -/
def OpenP (w : World) (base D : Nat) (d : Dk) (L : Lay) (gs : List (List ByteArray)) (tl : ByteArray) (e : Ending) (w' : World) : Prop :=
  (∀ s, ofR ss0 gs.flatten = some s → ∃ B Lb L' ev q, e = .returned (.tuple #[.pointer (some ⟨B, 0, none⟩), .int .i64 0]) ∧ SoAt w' base B Lb D (openD d gs tl) L' gs false s ev q ∧ SzS s gs.flatten.length ∧ Off (Foot D d.files L) w w' ∧ ∀ g, SoF B Lb D (openD d gs tl) L' ev q g → Foot D d.files L g ∨ w.heap.size ≤ g) ∧
  (ofR ss0 gs.flatten = none → e = .returned (.tuple #[.pointer none, .int .i64 2]) ∧ Off (Foot D d.files L) w w')

set_option maxHeartbeats 2000000 in
set_option maxRecDepth 100000 in
theorem open_so {w : World} {base D : Nat} {d : Dk} {L : Lay} {gs : List (List ByteArray)} {tl : ByteArray} (hd : DkAt w base D d L) (hon : d.on = true) (harm : d.arm = none) (hs : Segs d.files gs tl) (hfl : gs.flatten.length ≤ 1000000) :
    Calls Tryz.prog 7 #[.pointer (some ⟨D, 0, none⟩)] w (OpenP w base D d L gs tl) := by
  have HO := Lib.hid (open_log hd hon harm hs hfl)
  have HRC := Lib.hid hs.recs
  have hbase : base ≤ w.heap.size := Nat.le_trans hd.dbase (Nat.le_of_lt hd.blk.lt)
  clear hs hd hon harm
  go_enter Tryz.func7, Tryz.ntmps7
  go_wp2_with fail
  refine HO.out.mono ?_
  rintro e w1 ⟨Lb, v, L', rfl, hLb, l1, q1, d1, o1, f1⟩
  obtain ⟨a, cap, rfl, hcap, hcm, _⟩ := q1.form
  unfold maxLen at hcm
  have hbase1 : base ≤ w1.heap.size := Nat.le_trans hbase o1.size
  have OP0 := Lib.hid (show Op w base w1.heap.size Lb D d (openD d gs tl) L L' gs a cap gs.flatten 0 ss0 (.slice none 0 0) (.slice none 0 0) (w1.alloc (.cells #[.pointer (some ⟨Lb, 0, none⟩), .string ⟨#[]⟩, .slice none 0 0, .int .i64 0, .slice none 0 0] 59)) by
    refine ⟨rfl, sz0, ⟨⟨Blk.new w1 _ [.pointer (some ⟨Lb, 0, none⟩), .string ⟨#[]⟩, .slice none 0 0, .int .i64 0, .slice none 0 0], QR.nil _ _ _, QR.nil _ _ _, fun g hg => (by cases hg), by decide⟩, l1.keep (heap_alloc_old w1 _ (Blk.lt l1)), d1.keep (fun g hg => heap_alloc_old w1 _ (d1.foot_lt hg))⟩, q1.keep (fun g hg => heap_alloc_old w1 _ (q1.lt hg).1), fun g hg hr => ?_, o1.alloc _, fun g hg => ?_⟩
    · rcases hr with hr | hr | hr
      · have := (q1.lt hg).1; omega
      · cases hr
      · cases hr
    · rcases hg with (hg | hg | hg) | hg | hg
      · exact .inr (by have := o1.size; omega)
      · cases hg
      · cases hg
      · exact .inr (by omega)
      · exact f1 g hg)
  have HB := Lib.hid (show w.heap.size ≤ w1.heap.size from o1.size)
  have HO1 := Lib.hid o1
  have HRZ := Lib.hid (show ∀ k, k < gs.flatten.length → (gs.flatten.getD k ByteArray.empty).size ≤ 1000000 from fun k hk => by
    have := HRC.out (gs.flatten.getD k ByteArray.empty) (by rw [List.getD_eq_getElem?_getD, List.getElem?_eq_getElem hk]; exact List.getElem_mem hk)
    omega)
  clear l1 q1 d1 o1 f1 HO HRC
  generalize hfe : gs.flatten = l at *
  have HFE := Lib.hid hfe
  clear hfe
  go_wp2
  go_loopw [24] (fun i wr => ∃ (k : Nat) (s : SS) (ev q : Value), k ≤ l.length ∧ i = .int .i64 (k : Int) ∧ Op w base w1.heap.size Lb D d (openD d gs tl) L L' gs a cap l k s ev q wr) (fun i _ => l.length - (intOf i).toNat)
  case atStart => exact ⟨0, _, _, _, Nat.zero_le _, rfl, OP0.out⟩
  case round =>
    obtain ⟨k, s, ev, q, hk, rfl, hop⟩ := hrel
    by_cases hlt : k < l.length
    · obtain ⟨_, _, hae, _, _, hrow⟩ := hop.row.form
      cases hae
      obtain ⟨b, off, rfl, ck⟩ := str_cell hrow k hlt
      have hz := HRZ.out k hlt
      have HT := Lib.hid (stake_any hop.so.st (l.getD k ByteArray.empty) hz (Nat.le_trans hop.sz.el (by omega)) (Nat.le_trans hop.sz.ql (by omega)) (Nat.le_trans hbase hop.off.size))
      have HNX := Lib.hid (fun s' w2 h1 h2 => hop.next (s' := s') (w2 := w2) hlt HB.out hz h1 h2)
      have HBAD := Lib.hid (show takeR s (l.getD k ByteArray.empty) = none → ofR ss0 l = none from fun h => by
        refine ofR_none_take (k := k + 1) ?_
        rw [ofR_take l ss0 k hlt, hop.of]
        show takeR s l[k] = none
        rw [← h, List.getD_eq_getElem?_getD, List.getElem?_eq_getElem hlt]; rfl)
      have HOF := Lib.hid hop.off
      have HFB := Lib.hid (show ∀ w2, Below wr.heap.size wr w2 → Off (Foot D d.files L) w w2 from fun w2 hb => hop.off.trans (Off.of_new hb _) (fun _ _ h => h))
      generalize l.getD k ByteArray.empty = r at *
      clear hop hrow
      go_wp2_with fail
      refine HT.out.mono ?_
      rintro e w2 ⟨h1, h2⟩
      cases ht : takeR s r with
      | none =>
        obtain ⟨rfl, hb⟩ := h2 ht
        have HN := Lib.hid (HBAD.out ht)
        have HO2 := Lib.hid (HFB.out w2 hb)
        clear h1 h2 hb ht
        go_wp2
        go_ret2
        unfold OpenP
        rw [HFE.out]
        exact ⟨fun s hs => (by rw [HN.out] at hs; cases hs), fun _ => ⟨rfl, HO2.out⟩⟩
      | some s' =>
        obtain ⟨rfl, htk⟩ := h1 s' ht
        have HN := Lib.hid (HNX.out s' w2 ht htk)
        clear h1 h2 htk ht
        go_wp2
        go_roundw
        case rel =>
          obtain ⟨ev', q', hh⟩ := HN.out
          exact ⟨k + 1, s', ev', q', hlt, by go_num, hh⟩
        case measure => simp [intOf]; omega
    · obtain rfl : k = l.length := by omega
      have H := Lib.hid hop
      clear hop
      go_wp2
      go_ret2
      have h1 := H.out.of
      rw [List.take_length] at h1
      unfold OpenP
      rw [HFE.out]
      refine ⟨fun s2 hs => ?_, fun hs => (by rw [h1] at hs; cases hs)⟩
      rw [h1] at hs
      obtain rfl := Option.some.inj hs
      exact ⟨_, Lb, L', ev, q, rfl, H.out.so, H.out.sz, H.out.off, H.out.foot⟩
end Go.Proofs.YtffnkomnldgcaaaGreatDoor
