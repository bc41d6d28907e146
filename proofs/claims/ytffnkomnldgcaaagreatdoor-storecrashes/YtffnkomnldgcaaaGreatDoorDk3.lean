/-
  A disk of which one file is another one; contracts of Arm, Read, Sync.
-/
import Derived.Test.YtffnkomnldgcaaaGreatDoorDk2
namespace Go.Proofs.YtffnkomnldgcaaaGreatDoor
open Go.RowKit Go.Pal Go.Pal.Dk Go.Maps

theorem atF_modF {l : List Fl} (hs : SortedF l) {n : ByteArray} {g : Fl → Fl} (hg : ∀ f, (g f).name = f.name) (m : ByteArray) : atF (modF n g l) m = (atF l m).map (fun f => if f.name = n then g f else f) := by
  induction l with
  | nil => rfl
  | cons a r ih =>
    have ih' := ih (List.pairwise_cons.1 hs).2
    have e : modF n g (a :: r) = (if a.name = n then g a else a) :: modF n g r := rfl
    have en : (if a.name = n then g a else a).name = a.name := by split; exact hg a; rfl
    rw [e]
    unfold atF at ih' ⊢
    rw [List.find?_cons, List.find?_cons, en]
    by_cases hm : a.name = m
    · simp [hm]
    · simp only [hm, decide_false]; exact ih'
theorem MapAt.mod {w : World} {l m : List Fl} {L L' : Lay} (h : MapAt w l L) (hm : L'.map = L.map) (hf : L'.fb = L.fb) (hl : m.length = l.length) (ha : ∀ n, (atF m n).isSome = (atF l n).isSome) : MapAt w m L' := by
  unfold MapAt at h ⊢
  rw [hm]
  cases hb : L.map with
  | none =>
    rw [hb] at h
    have h' : l = [] := h
    rw [h'] at hl
    exact List.eq_nil_of_length_eq_zero hl
  | some b =>
    rw [hb] at h
    obtain ⟨Dm, h1, h2, h3⟩ := h
    refine ⟨Dm, by rw [hl]; exact h1, fun n => ?_, fun n => by rw [ha]; exact h3 n⟩
    rw [h2 n]
    unfold ptrD
    rw [hf]
    have := ha n
    cases h4 : atF l n <;> cases h5 : atF m n <;> rw [h4, h5] at this <;> simp at this <;> rfl
/-- One file is another one. -/
theorem DkAt.file {w w' : World} {base D : Nat} {d : Dk} {L L' : Lay} (h : DkAt w base D d L) {n : ByteArray} {f : Fl} {g : Fl → Fl} (hf : atF d.files n = some f) (hg : ∀ f, (g f).name = f.name)
    (hm : L'.map = L.map) (hfb : L'.fb = L.fb) (hrow : ∀ m, m ≠ n → L'.row m = L.row m)
    (hB : Blk w' D 54 [.int .i64 (d.room : Int), .int .i64 (usedF (modF n g d.files) : Int), .map L.map, .bool d.on, .bool d.arm.isSome, .int .i64 ((d.arm.getD 0 : Nat) : Int)])
    (hF : FileAt w' base L' (g f)) (ho : Off (fun x => x = D ∨ x = L.fb n ∨ (L.row n).ownBlock = some x) w w')
    (hnew : ∀ b, (L'.row n).ownBlock = some b → (L.row n).ownBlock = some b ∨ w.heap.size ≤ b) (hu : usedF (modF n g d.files) ≤ d.room) (hsafe : (g f).safe ≤ (g f).data.size) :
    DkAt w' base D { d with files := modF n g d.files } L' ∧ ∀ x, Foot D (modF n g d.files) L' x → Foot D d.files L x ∨ w.heap.size ≤ x := by
  obtain ⟨hfm, hfn⟩ := atF_some hf
  have inv : ∀ k ∈ modF n g d.files, (k ∈ d.files ∧ k.name ≠ n) ∨ k = g f := by
    intro k hk
    rcases mem_modF hk with h1 | ⟨f2, h2, h3, h4⟩
    · exact .inl h1
    · exact .inr (by rw [h4, sorted_inj h.good.sorted f2 h2 f hfm (h3.trans hfn.symm)])
  have gn : (g f).name = n := (hg f).trans hfn
  have old : ∀ k ∈ d.files, k.name ≠ n → FileAt w' base L' k := by
    intro k hk hne
    have hx := h.each k hk
    have ap := h.apart k hk f hfm (by rw [hfn]; exact hne)
    rw [hfn] at ap
    have h1 := hx.keep (w' := w') (ho.block _ hx.blk.lt (by
      rintro (e | e | e)
      · exact h.ne_fb hk e
      · exact ap.1 e
      · exact h.fb_row hk hfm (by rw [hfn]; exact e) rfl)) (fun b hb => ho.block b (own_lt hx.row hb).1 (by
      rintro (e | e | e)
      · exact h.ne_row hk hb e
      · exact h.fb_row hfm hk hb (by rw [hfn]; exact e)
      · exact ap.2 b hb e))
    exact ⟨by rw [hfb, hrow _ hne]; exact h1.blk, by rw [hrow _ hne]; exact h1.row, by rw [hfb]; exact h1.fbase⟩
  have each' : ∀ k ∈ modF n g d.files, FileAt w' base L' k := by
    intro k hk
    rcases inv k hk with ⟨h1, h2⟩ | rfl
    · exact old k h1 h2
    · exact hF
  have ap2 : ∀ k ∈ d.files, k.name ≠ n → L.fb k.name ≠ L.fb n ∧ (∀ b, (L.row k.name).ownBlock = some b → (L'.row n).ownBlock ≠ some b) := by
    intro k hk hne
    have ap := h.apart k hk f hfm (by rw [hfn]; exact hne)
    rw [hfn] at ap
    refine ⟨ap.1, fun b hb e => ?_⟩
    rcases hnew b e with h1 | h1
    · exact ap.2 b hb h1
    · have := (own_lt (h.each k hk).row hb).1; omega
  refine ⟨⟨by rw [hm]; exact hB, ⟨h.good.room, hu, sorted_names (names_modF hg d.files).symm h.good.sorted, ?_, ?_, h.good.arm⟩, ?_, each', ?_, h.dbase, fun b hb => h.mbase b (by rw [← hm]; exact hb)⟩, ?_⟩
  · intro k hk
    rcases inv k hk with ⟨h1, _⟩ | rfl
    · exact h.good.safe k h1
    · exact hsafe
  · intro k hk
    rcases inv k hk with ⟨h1, _⟩ | rfl
    · exact h.good.names k h1
    · rw [hg]; exact h.good.names f hfm
  · refine MapAt.mod (h.map.keep (w' := w') (fun b hb => ho.block b (h.map.lt hb).1 ?_)) hm hfb (by unfold modF; simp) (fun m => by rw [atF_modF h.good.sorted hg]; simp)
    rintro (e | e | e)
    · exact h.ne_map hb e
    · exact h.fb_map hfm hb (by rw [hfn]; exact e)
    · exact h.row_map hfm hb (by rw [hfn]; exact e)
  · intro k hk j hj hne
    rcases inv k hk with ⟨h1, h2⟩ | rfl <;> rcases inv j hj with ⟨h3, h4⟩ | rfl
    · rw [hfb, hrow _ h2, hrow _ h4]; exact h.apart k h1 j h3 hne
    · rw [hfb, hrow _ h2, gn]; exact ap2 k h1 h2
    · rw [hfb, hrow _ h4, gn]
      refine ⟨fun e => (ap2 j h3 h4).1 e.symm, fun b hb e => (ap2 j h3 h4).2 b e hb⟩
    · exact absurd rfl hne
  · rintro x (rfl | hx | ⟨k, hk, hx⟩)
    · exact .inl (.inl rfl)
    · exact .inl (.inr (.inl (by rw [← hm]; exact hx)))
    · rcases inv k hk with ⟨h1, h2⟩ | rfl
      · rw [hfb, hrow _ h2] at hx; exact .inl (.inr (.inr ⟨k, h1, hx⟩))
      · rw [hfb, gn] at hx
        rcases hx with hx | hx
        · exact .inl (.inr (.inr ⟨f, hfm, .inl (by rw [hfn]; exact hx)⟩))
        · rcases hnew x hx with h1 | h1
          · exact .inl (.inr (.inr ⟨f, hfm, .inr (by rw [hfn]; exact h1)⟩))
          · exact .inr h1
/-- The text of a file's row. -/
theorem row_text {w : World} {base : Nat} {v : Value} {s : ByteArray} (h : w.ownsRow base 5 1 v s.size (s.data.toList.map byteV)) :
    (convert 69 9 v).run Tryz.prog w = .ok (.string s) w := by
  have hs : strOfNums (s.data.toList.map fun b => (b.toNat : Int)) = s := by
    simp [strOfNums, Function.comp_def]
  rcases h.2 with ⟨rfl, h0⟩ | ⟨g, cap, cur, rfl, _, hh, _, _, hc, ht⟩
  · have e : s = ByteArray.empty := ByteArray.ext (Array.eq_empty_of_size_eq_zero h0)
    rw [e]
    exact run_convert_bytes_nil w 69 5 Tryz.underlying69 Tryz.underlying5 0 0 9 Tryz.underlying9
  · have h1 := run_convert_bytes_arg (P := Tryz.prog) w 69 5 Tryz.underlying69 Tryz.underlying5 g 0 s.size cap (s.data.toList.map fun b => (b.toNat : Int)) (by simp) (fun i hi => by
        have e1 : w.cell? ⟨g, 0 + i, none⟩ = cur.toList[i]? := by simp [World.cell?, hh]
        have e2 : cur.toList[i]? = (cur.toList.take (s.size * 1))[i]? := by rw [List.getElem?_take_of_lt (by omega)]
        rw [e1, e2, ht]
        simp [byteV, hi, List.getD_eq_getElem?_getD]) 9 Tryz.underlying9
    rw [h1, hs]
end Go.Proofs.YtffnkomnldgcaaaGreatDoor
